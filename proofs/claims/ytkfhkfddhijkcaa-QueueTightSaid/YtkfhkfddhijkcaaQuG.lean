/-
  WHAT IS PROVED: the law QueueRoom returns true. Conditions: those typed in each theorem.
-/
import Derived.Test.YtkfhkfddhijkcaaQuF
namespace Go.Proofs.Ytkfhkfddhijkcaa
open Go.RowKit

theorem rem_u8c (i : Nat) (W : World) (z : Nat) : ((do eqGuard .rem 5 (.tmp i) (.const (.int .u8 30)) (.int .u8 (z : Int)) (.int .u8 30); binOp .rem 5 (.int .u8 (z : Int)) (.int .u8 30)) : Sem Value).run Try.prog W = .ok (.int .u8 ((z % 30 : Nat) : Int)) W := by
  have m1 : Int.tmod (z : Int) 30 = ((z % 30 : Nat) : Int) := rfl
  rw [← m1]
  clear m1
  unfold binOp
  simp only [eqGuard, go_sem]
  simp
set_option maxRecDepth 100000 in
theorem cv_8i (W : World) {y : Nat} (h : y ≤ 1000) : (convert 5 3 (.int .u8 (y : Int))).run Try.prog W = .ok (.int .i64 (y : Int)) W := by
  have h2 : (convert 5 3 (.int .u8 (y : Int))).run Try.prog W = .ok (.int .i64 (IntKind.i64.wrap (y : Int))) W := run_convert_int (P := Try.prog) (w := W) 5 3 .u8 (y : Int) (by kernel_rfl) (by kernel_rfl)
  rw [wrapI (by omega)] at h2
  exact h2
theorem add_1 (i : Nat) (W : World) (y : Int) (h : y ≤ 100000 ∧ -100000 ≤ y) : ((do eqGuard .add 3 (.tmp i) (.const (.int .i64 1)) (.int .i64 y) (.int .i64 1); binOp .add 3 (.int .i64 y) (.int .i64 1)) : Sem Value).run Try.prog W = .ok (.int .i64 (y + 1)) W := by
  have wr : IntKind.i64.wrap (y + 1) = y + 1 := wrapS (by omega)
  clear h
  go_simp
/-- So many writes of device 1. -/
def wsR (k : Nat) : List Wr := (List.range k).map fun i : Nat => wW 1 ((i : Int) + 1)
theorem wsR_len (k : Nat) : (wsR k).length = k := by simp [wsR]
theorem wsR_next (k : Nat) : wsR (k + 1) = wsR k ++ [wW 1 ((k : Int) + 1)] := by simp [wsR, List.range_succ]
theorem wsR_mem {k : Nat} {x : Wr} (h : x ∈ wsR k) : x.dev = 1 ∧ x.seq ≤ (k : Int) := by
  obtain ⟨i, hi, rfl⟩ := List.mem_map.1 h
  have := List.mem_range.1 hi
  exact ⟨rfl, by show (i : Int) + 1 ≤ k; omega⟩
theorem jL_is (k : Nat) : ofL zL (wsR k) = laL 0 (k : Int) 0 0 0 0 0 0 0 0 0 0 := by
  induction k with
  | zero => rfl
  | succ k ih =>
    rw [wsR_next, ofL_snoc, ih, ofS_yes (d := 1) (by decide) rfl]
    show (laL 0 (k : Int) 0 0 0 0 0 0 0 0 0 0).set 1 (max (k : Int) ((k : Int) + 1)) = _
    rw [show max (k : Int) ((k : Int) + 1) = ((k + 1 : Nat) : Int) by omega]
    rfl
theorem ask_j1 (k : Nat) (q : Int) (h : q = (k : Int) + 1) : askI (ofL zL (wsR k)) 1 q = 0 := by
  rw [jL_is, h]
  unfold askI
  rw [show lastI (laL 0 (k : Int) 0 0 0 0 0 0 0 0 0 0) 1 = (k : Int) from rfl, decide_eq_false (by omega), decide_eq_false (by omega)]
  rfl
theorem ask_j6 (k : Nat) (q : Int) (h : q ≤ (k : Int)) : askI (ofL zL (wsR k)) 1 q = 6 := by
  rw [jL_is]
  unfold askI
  rw [show lastI (laL 0 (k : Int) 0 0 0 0 0 0 0 0 0 0) 1 = (k : Int) from rfl, decide_eq_true h]
  rfl
theorem ask_two {l : List Int} (h : gI l 2 = 0) : askI l 2 1 = 0 := by
  unfold askI
  rw [show lastI l 2 = gI l 2 from rfl, h]
  rfl
theorem ask_two2 {l : List Int} (h : gI l 2 = 1) : askI l 2 2 = 0 := by
  unfold askI
  rw [show lastI l 2 = gI l 2 from rfl, h]
  rfl
theorem gI_j2 (k : Nat) : gI (ofL zL (wsR k)) 2 = 0 := by rw [jL_is]; rfl
theorem left_wsR (k : Nat) : (leftL oneL (wsR k)).length = k - 1 := by
  induction k with
  | zero => rfl
  | succ k ih =>
    rw [wsR_next, leftL_snoc, notOld_is (d := 1) (by decide) rfl]
    show (bif decide (gI oneL 1 < (k : Int) + 1) then leftL oneL (wsR k) ++ [wW 1 ((k : Int) + 1)] else leftL oneL (wsR k)).length = k + 1 - 1
    rw [show gI oneL 1 = 1 from rfl]
    by_cases h : (1 : Int) < (k : Int) + 1
    · rw [decide_eq_true h]
      show (leftL oneL (wsR k) ++ [wW 1 ((k : Int) + 1)]).length = _
      rw [List.length_append, ih]
      simp
      omega
    · rw [decide_eq_false h]
      show (leftL oneL (wsR k)).length = _
      rw [ih]
      omega
theorem left_mem {k : Nat} {x : Wr} (h : x ∈ leftL oneL (wsR k)) : x.dev = 1 ∧ x.seq ≤ (k : Int) := wsR_mem (List.mem_filter.1 h).1
theorem gI_l2 (k : Nat) : gI (ofL oneL (leftL oneL (wsR k))) 2 = 0 := by
  rw [gI_ofL (by decide) _ oneL rfl, mxI_other 2 _ _ fun x hx => by rw [(left_mem hx).1]; decide]
  rfl
theorem gI_l3 (k : Nat) : gI (ofL oneL (leftL oneL (wsR k) ++ [wW 2 1])) 2 = 1 := by
  have e : mxI 2 (gI oneL 2) (leftL oneL (wsR k)) = 0 := by
    rw [mxI_other 2 _ _ fun x hx => by rw [(left_mem hx).1]; decide]
    rfl
  rw [gI_ofL (by decide) _ oneL rfl, mxI_app, e]
  rfl

set_option maxRecDepth 100000 in
set_option maxHeartbeats 4000000 in
theorem queueRoom_all (x : UInt8) (w : World) : Calls Try.prog 4 #[.int .u8 (x.toNat : Int)] w fun e w' => e = .returned (.bool true) ∧ Below w.heap.size w w' := by
  have hx8 := x.toNat_lt
  generalize x.toNat = z0 at hx8 ⊢
  go_enter Try.func4, Try.ntmps4
  go_upto_region 1 with fail
  refine wp_region_lit ?_
  refine fl_start ?_
  generalize ha : Act.mk _ _ = a0
  have hn : a0.tmps.size = 95 := by rw [← ha]; kernel_rfl
  have h0 : (fr a0 []).eval (.tmp 0) = .int .u8 (z0 : Int) := by rw [← ha]; kernel_rfl
  refine fl_know hn rfl h0 ?_
  clear h0
  have hm := Nat.mod_lt z0 (show 0 < 30 by decide)
  have r1 := rem_u8c 9 w z0
  have r2 := cv_8i w (y := z0 % 30) (by omega)
  have r3 := add_1 11 w ((z0 % 30 : Nat) : Int) (by omega)
  refine g_mv hn ?_
  refine g_bc hn ?_
  refine g_cv hn ?_
  refine g_bc hn ?_
  refine g_as hn ?_
  refine fl_end ?_
  clear hn
  subst ha
  dsimp only [fr, cnd, Act.put, cond_true]
  simp only [List.setIfInBounds_toArray, List.set_cons_zero, List.set_cons_succ]
  clear r1 r2 r3 hx8
  obtain ⟨k, hk⟩ : ∃ k : Nat, z0 % 30 + 1 = k := ⟨_, rfl⟩
  rw [show ((z0 % 30 : Nat) : Int) + 1 = (k : Int) by omega]
  replace hm : 1 ≤ k ∧ k ≤ 30 := by omega
  clear hk
  go_wp2_with fail
  refine (qNew_any (k : Int) w (by omega) (by omega)).mono ?_
  rintro e w1 ⟨q, rfl, hq, hQ, hB⟩
  go_wp2_with fail
  refine (awake14_any w1).mono ?_
  rintro e w2 ⟨rfl, hB2⟩
  replace hQ := hQ.keep hB2
  replace hB := hB.trans (hB2.mono hB.size)
  clear hB2
  go_upto_region 5 with fail
  refine wp_region_lit ?_
  refine fl_start ?_
  generalize ha : Act.mk _ _ = a0
  have hn : a0.tmps.size = 95 := by rw [← ha]; kernel_rfl
  refine fl_op (v := .agg (liA zL)) hn rfl (by rfl) rfl (fun hk _ => x_bdQ (vs := #[]) (by simp) (bdLa0 w2)) ?_
  refine al_row hn (alLa w2) ?_
  intro z w3 hz hZ1 hB2
  refine g_str hZ1 ?_ (h1 := li_one zL) (hi := by kernel_rfl)
  intro w4 ho hZ
  refine fl_end ?_
  clear hn
  subst ha
  dsimp only [fr, cnd, Act.put, cond_true]
  simp only [List.setIfInBounds_toArray, List.set_cons_zero, List.set_cons_succ]
  have hqz : q < z := by have := hQ.blk.lt; omega
  replace hB2 := hB2.trans (ho.below (by omega))
  replace hQ := hQ.keep hB2
  replace hB := hB.trans (hB2.mono hB.size)
  clear hZ1 hB2 ho
  go_wp2_with fail
  go_loopw [7] (fun u7 wr => ∃ (j : Nat) (A : Option Addr) (n c : Nat), j ≤ k ∧ u7 = .int .i64 ((j + 1 : Nat) : Int) ∧ QuW wr q (k : Int) A n c (wsR j) ∧ Blk wr z (liA zL) 29 ∧ Below w.heap.size w wr) (fun u7 _ => k + 1 - (intOf u7).toNat)
  case atStart => exact ⟨0, none, 0, 0, by omega, rfl, hQ, hZ, hB⟩
  case round =>
    clear hQ hZ hB
    obtain ⟨j, A, n, c, hj, rfl, hQ, hZ, hB⟩ := hrel
    have ld : ∀ W, Blk W z (liA zL) 29 → _ := fun W h => ld_liL h rfl
    have hnl := hQ.len
    rw [wsR_len] at hnl
    by_cases hjk : j < k
    · have j2 : ((j + 1 : Nat) : Int) ≤ (k : Int) := by omega
      go_upto_region 9 with fail
      refine fh_start (S := (fun W => Blk W z (liA zL) 29)) (by kernel_rfl) (hZ) (fun hS => ?_)
      generalize ha : Act.mk _ _ = a0
      have hn : a0.tmps.size = 95 := by rw [← ha]; kernel_rfl
      have h4 : (fr a0 []).eval (.tmp 4) = .pointer (some ⟨q, 0, none⟩) := by rw [← ha]; kernel_rfl
      refine fh_know hn rfl h4 ?_
      clear h4
      have h6 : (fr a0 [(4, true, .pointer (some ⟨q, 0, none⟩))]).eval (.tmp 6) = .pointer (some ⟨z, 0, none⟩) := by rw [← ha]; kernel_rfl
      refine fh_know hn rfl h6 ?_
      clear h6
      have h7 : (fr a0 [(6, true, .pointer (some ⟨z, 0, none⟩)), (4, true, .pointer (some ⟨q, 0, none⟩))]).eval (.tmp 7) = .int .i64 ((j + 1 : Nat) : Int) := by rw [← ha]; kernel_rfl
      refine fh_know hn rfl h7 ?_
      clear h7
      clear hS
      have hZ0 : Blk (World.drew wr) z (liA zL) 29 := hZ
      have hQ0 : QuW (World.drew wr) q (k : Int) A n c (wsR j) := ⟨hQ.blk, hQ.own, hQ.fit⟩
      have hB0 := Below.drew hB
      refine h_mv 0 hn hZ0 ?_
      refine h_ld 1 hn hZ0 ?_
      refine h_mv 2 hn hZ0 ?_
      refine fh_callx 3 (d := 40) (R := fun v w' => v = .agg (wW 1 ((j + 1 : Nat) : Int)).cells ∧ Below (World.drew wr).heap.size (World.drew wr) w') hn rfl (fun hk => call2_is en_spinney_spinneylaw14_w _ _ _ _ _ _ _ _ _ (.int .i64 1) (.int .i64 ((j + 1 : Nat) : Int)) (rfl) (lk_at hk (i := 39) rfl (fun _ => rfl) rfl) rfl) ((w14_any 1 ((j + 1 : Nat) : Int) _).mono fun _ _ ⟨he, hb2⟩ => ⟨_, he, rfl, hb2⟩) ?_ rfl rfl (by kernel_rfl) rfl
      rintro v v1 ⟨rfl, hb1⟩
      have hZ1 := Blk.keep hZ0 hb1
      have hQ1 := QuW.keep hQ0 hb1
      have hB1 := hB0.trans (hb1.mono hB0.size)
      refine ⟨hZ1, ?_⟩
      have hc2 := (takeI_ok (room := (k : Int)) (l := zL) (ws := wsR j) (x := wW 1 ((j + 1 : Nat) : Int)) (ask_j1 j _ (by show ((j + 1 : Nat) : Int) = _; omega)) (by rw [wsR_len]; omega))
      refine fh_callx 4 (d := 41) (R := fun v w' => v = .int .i64 0 ∧ QTook q (k : Int) A n c (wsR j) (wW 1 ((j + 1 : Nat) : Int)) 0 v1 w') hn rfl (fun hk => call3_is en_spinney_queue_Queue_Take _ _ _ _ _ _ _ _ _ _ _ _ _ (lk_at hk (i := 37) rfl (fun _ => rfl) rfl) (lk_at hk (i := 38) rfl (fun _ => rfl) rfl) (lk_at hk (i := 40) rfl (fun _ => rfl) rfl) rfl) ((qTake_any q (k : Int) A n c (wsR j) zL (wW 1 ((j + 1 : Nat) : Int)) v1 hQ1 rfl (ofL_sml zL_sml fun x hx => by have := (wsR_mem hx).2; omega) (wW_fit _ _) (by omega)).mono fun _ _ ⟨he, hb2⟩ => ⟨_, he, by rw [hc2], by rw [← hc2]; exact hb2⟩) ?_ rfl rfl (by kernel_rfl) rfl
      rintro v v2 ⟨rfl, ht2⟩
      obtain ⟨A2, n2, c2, hQ2, hk2, ha2⟩ := ht2.ok rfl
      have hZ2 := hk2.keep hQ1 hZ1 (by omega) lt_ne
      have hB2 := hB1.trans (hk2.below (B := w.heap.size) hq (fun x hx => hQ1.above x hx) hB1.size)
      refine ⟨hZ2, ?_⟩
      refine h_bc 5 hn hZ2 ?_ (hx := fun W _ => er_neq _ _ _ W)
      refine fh_end (by kernel_rfl) ?_
      clear hn
      subst ha
      dsimp only [fr, cnd, Act.put, cond_true]
      simp only [List.setIfInBounds_toArray, List.set_cons_zero, List.set_cons_succ]
      have hQn : QuW v2 q (k : Int) A2 n2 c2 (wsR (j + 1)) := by rw [wsR_next]; exact hQ2
      have hZn := hZ2
      have hBn := hB2
      clear ld
      go_wp2_with fail
      refine ⟨?_, ?_⟩
      · first
        | exact ⟨j + 1, A2, n2, c2, by omega, by go_num, hQn, hZn, hBn⟩
        | repeat apply Exists.intro
          refine ⟨?_, rfl⟩
          exact ⟨j + 1, A2, n2, c2, by omega, by go_num, hQn, hZn, hBn⟩
      · simp [intOf]; omega
    · have e : j = k := by omega
      subst e
      have j2 : ¬ ((j + 1 : Nat) : Int) ≤ (j : Int) := by omega
      have ad : ∀ W, Blk W z (liA zL) 29 → _ := fun W _ => add_1 45 W (j : Int) (by omega)
      go_upto_region 11 with fail
      refine fh_start (S := (fun W => Blk W z (liA zL) 29)) (by kernel_rfl) (hZ) (fun hS => ?_)
      generalize ha : Act.mk _ _ = a0
      have hn : a0.tmps.size = 95 := by rw [← ha]; kernel_rfl
      have h3 : (fr a0 []).eval (.tmp 3) = .int .i64 (j : Int) := by rw [← ha]; kernel_rfl
      refine fh_know hn rfl h3 ?_
      clear h3
      have h4 : (fr a0 [(3, true, .int .i64 (j : Int))]).eval (.tmp 4) = .pointer (some ⟨q, 0, none⟩) := by rw [← ha]; kernel_rfl
      refine fh_know hn rfl h4 ?_
      clear h4
      have h6 : (fr a0 [(4, true, .pointer (some ⟨q, 0, none⟩)), (3, true, .int .i64 (j : Int))]).eval (.tmp 6) = .pointer (some ⟨z, 0, none⟩) := by rw [← ha]; kernel_rfl
      refine fh_know hn rfl h6 ?_
      clear h6
      clear hS
      have hZ0 : Blk (World.drew wr) z (liA zL) 29 := hZ
      have hQ0 : QuW (World.drew wr) q (j : Int) A n c (wsR j) := ⟨hQ.blk, hQ.own, hQ.fit⟩
      have hB0 := Below.drew hB
      refine h_mv 0 hn hZ0 ?_
      refine h_ld 1 hn hZ0 ?_
      refine h_mv 2 hn hZ0 ?_
      refine h_bc 3 hn hZ0 ?_
      refine fh_callx 4 (d := 47) (R := fun v w' => v = .agg (wW 1 ((j : Int) + 1)).cells ∧ Below (World.drew wr).heap.size (World.drew wr) w') hn rfl (fun hk => call2_is en_spinney_spinneylaw14_w _ _ _ _ _ _ _ _ _ (.int .i64 1) (.int .i64 ((j : Int) + 1)) (rfl) (lk_at hk (i := 46) rfl (fun _ => rfl) rfl) rfl) ((w14_any 1 ((j : Int) + 1) _).mono fun _ _ ⟨he, hb2⟩ => ⟨_, he, rfl, hb2⟩) ?_ rfl rfl (by kernel_rfl) rfl
      rintro v v1 ⟨rfl, hb1⟩
      have hZ1 := Blk.keep hZ0 hb1
      have hQ1 := QuW.keep hQ0 hb1
      have hB1 := hB0.trans (hb1.mono hB0.size)
      refine ⟨hZ1, ?_⟩
      have hc2 := (takeI_full (room := (j : Int)) (l := zL) (ws := wsR j) (x := wW 1 ((j : Int) + 1)) (ask_j1 j _ rfl) (by rw [wsR_len]; omega))
      refine fh_callx 5 (d := 48) (R := fun v w' => v = .int .i64 3 ∧ QTook q (j : Int) A n c (wsR j) (wW 1 ((j : Int) + 1)) 3 v1 w') hn rfl (fun hk => call3_is en_spinney_queue_Queue_Take _ _ _ _ _ _ _ _ _ _ _ _ _ (lk_at hk (i := 43) rfl (fun _ => rfl) rfl) (lk_at hk (i := 44) rfl (fun _ => rfl) rfl) (lk_at hk (i := 47) rfl (fun _ => rfl) rfl) rfl) ((qTake_any q (j : Int) A n c (wsR j) zL (wW 1 ((j : Int) + 1)) v1 hQ1 rfl (ofL_sml zL_sml fun x hx => by have := (wsR_mem hx).2; omega) (wW_fit _ _) (by omega)).mono fun _ _ ⟨he, hb2⟩ => ⟨_, he, by rw [hc2], by rw [← hc2]; exact hb2⟩) ?_ rfl rfl (by kernel_rfl) rfl
      rintro v v2 ⟨rfl, ht2⟩
      obtain ⟨hQ2, hb2⟩ := ht2.fail (by decide)
      have hZ2 := Blk.keep hZ1 hb2
      have hB2 := hB1.trans (hb2.mono hB1.size)
      refine ⟨hZ2, ?_⟩
      refine h_bc 6 hn hZ2 ?_ (hx := fun W _ => er_neq _ _ _ W)
      refine h_mv 7 hn hZ2 ?_
      refine h_mv 8 hn hZ2 ?_
      refine h_ld 9 hn hZ2 ?_
      refine fh_callx 10 (d := 53) (R := fun v w' => v = .agg (wW 2 1).cells ∧ Below v2.heap.size v2 w') hn rfl (fun hk => call2_is en_spinney_spinneylaw14_w _ _ _ _ _ _ _ _ _ (.int .i64 2) (.int .i64 1) (rfl) (rfl) rfl) ((w14_any 2 1 _).mono fun _ _ ⟨he, hb2⟩ => ⟨_, he, rfl, hb2⟩) ?_ rfl rfl (by kernel_rfl) rfl
      rintro v v3 ⟨rfl, hb3⟩
      have hZ3 := Blk.keep hZ2 hb3
      have hQ3 := QuW.keep hQ2 hb3
      have hB3 := hB2.trans (hb3.mono hB2.size)
      refine ⟨hZ3, ?_⟩
      have hc4 := (takeI_full (room := (j : Int)) (l := zL) (ws := wsR j) (x := wW 2 1) (ask_two (gI_j2 j)) (by rw [wsR_len]; omega))
      refine fh_callx 11 (d := 54) (R := fun v w' => v = .int .i64 3 ∧ QTook q (j : Int) A n c (wsR j) (wW 2 1) 3 v3 w') hn rfl (fun hk => call3_is en_spinney_queue_Queue_Take _ _ _ _ _ _ _ _ _ _ _ _ _ (lk_at hk (i := 51) rfl (fun _ => rfl) rfl) (lk_at hk (i := 52) rfl (fun _ => rfl) rfl) (lk_at hk (i := 53) rfl (fun _ => rfl) rfl) rfl) ((qTake_any q (j : Int) A n c (wsR j) zL (wW 2 1) v3 hQ3 rfl (ofL_sml zL_sml fun x hx => by have := (wsR_mem hx).2; omega) (wW_fit _ _) (by omega)).mono fun _ _ ⟨he, hb2⟩ => ⟨_, he, by rw [hc4], by rw [← hc4]; exact hb2⟩) ?_ rfl rfl (by kernel_rfl) rfl
      rintro v v4 ⟨rfl, ht4⟩
      obtain ⟨hQ4, hb4⟩ := ht4.fail (by decide)
      have hZ4 := Blk.keep hZ3 hb4
      have hB4 := hB3.trans (hb4.mono hB3.size)
      refine ⟨hZ4, ?_⟩
      refine h_bc 12 hn hZ4 ?_ (hx := fun W _ => er_neq _ _ _ W)
      refine h_op 13 hn hZ4 (fun W _ hk => x_or (fun _ => rfl) (lk_at hk (i := 50) rfl (fun _ => rfl) rfl) (fun _ => lk_at hk (i := 55) rfl (fun _ => rfl) rfl)) ?_
      refine h_mv 14 hn hZ4 ?_
      refine h_mv 15 hn hZ4 ?_
      refine h_ld 16 hn hZ4 ?_
      refine fh_callx 17 (d := 60) (R := fun v w' => v = .agg (wW 1 1).cells ∧ Below v4.heap.size v4 w') hn rfl (fun hk => call2_is en_spinney_spinneylaw14_w _ _ _ _ _ _ _ _ _ (.int .i64 1) (.int .i64 1) (rfl) (rfl) rfl) ((w14_any 1 1 _).mono fun _ _ ⟨he, hb2⟩ => ⟨_, he, rfl, hb2⟩) ?_ rfl rfl (by kernel_rfl) rfl
      rintro v v5 ⟨rfl, hb5⟩
      have hZ5 := Blk.keep hZ4 hb5
      have hQ5 := QuW.keep hQ4 hb5
      have hB5 := hB4.trans (hb5.mono hB4.size)
      refine ⟨hZ5, ?_⟩
      have hc6 := (takeI_of (room := (j : Int)) (l := zL) (ws := wsR j) (x := wW 1 1) (a := 6) (ask_j6 j 1 (by omega)) (by decide))
      refine fh_callx 18 (d := 61) (R := fun v w' => v = .int .i64 6 ∧ QTook q (j : Int) A n c (wsR j) (wW 1 1) 6 v5 w') hn rfl (fun hk => call3_is en_spinney_queue_Queue_Take _ _ _ _ _ _ _ _ _ _ _ _ _ (lk_at hk (i := 58) rfl (fun _ => rfl) rfl) (lk_at hk (i := 59) rfl (fun _ => rfl) rfl) (lk_at hk (i := 60) rfl (fun _ => rfl) rfl) rfl) ((qTake_any q (j : Int) A n c (wsR j) zL (wW 1 1) v5 hQ5 rfl (ofL_sml zL_sml fun x hx => by have := (wsR_mem hx).2; omega) (wW_fit _ _) (by omega)).mono fun _ _ ⟨he, hb2⟩ => ⟨_, he, by rw [hc6], by rw [← hc6]; exact hb2⟩) ?_ rfl rfl (by kernel_rfl) rfl
      rintro v v6 ⟨rfl, ht6⟩
      obtain ⟨hQ6, hb6⟩ := ht6.fail (by decide)
      have hZ6 := Blk.keep hZ5 hb6
      have hB6 := hB5.trans (hb6.mono hB5.size)
      refine ⟨hZ6, ?_⟩
      refine h_bc 19 hn hZ6 ?_ (hx := fun W _ => er_neq _ _ _ W)
      refine h_op 20 hn hZ6 (fun W _ hk => x_or (fun _ => rfl) (lk_at hk (i := 57) rfl (fun _ => rfl) rfl) (fun _ => lk_at hk (i := 62) rfl (fun _ => rfl) rfl)) ?_
      refine h_mv 21 hn hZ6 ?_
      refine h_mv 22 hn hZ6 ?_
      refine h_mv 24 hn hZ6 ?_
      have hv7 := (show (n : Int) = (j : Int) by omega)
      refine fh_callx 23 (d := 66) (R := fun v w' => v = .int .i64 (j : Int) ∧ w' = v6) hn rfl (fun hk => call1_is en_spinney_queue_Queue_Len _ _ _ _ _ _ _ _ _ (lk_at hk (i := 65) rfl (fun _ => rfl) rfl) rfl) ((qLen_any q (j : Int) A n c (wsR j) v6 hQ6).mono fun _ _ ⟨he, hb2⟩ => ⟨_, he, by rw [hv7], hb2⟩) ?_ rfl rfl (by kernel_rfl) rfl
      rintro v v7 ⟨rfl, rfl⟩
      refine ⟨hZ6, ?_⟩
      refine h_neq2 25 hn hZ6 ?_
      refine h_op 26 hn hZ6 (fun W _ hk => x_or (fun _ => rfl) (lk_at hk (i := 64) rfl (fun _ => rfl) rfl) (fun _ => lk_at hk (i := 68) rfl (fun _ => rfl) rfl)) ?_
      refine fh_end (by kernel_rfl) ?_
      clear hn
      subst ha
      dsimp only [fr, cnd, Act.put, cond_true]
      simp only [List.setIfInBounds_toArray, List.set_cons_zero, List.set_cons_succ]
      have hQ9 := hQ6
      have hB9 := hB6
      clear ld ad
      simp only [bne_self_eq_false]
      go_upto_region 13 with fail
      refine wp_region_lit ?_
      refine fl_start ?_
      generalize ha : Act.mk _ _ = a0
      have hn : a0.tmps.size = 95 := by rw [← ha]; kernel_rfl
      refine fl_op (v := .agg (liA oneL)) hn rfl (by rfl) rfl (fun hk _ => x_bdQ (vs := #[(1, .int .i64 1)]) (by first | rfl | (simp only [List.map_toArray, List.map_cons, List.map_nil]; rfl)) (bdLa1 _)) ?_
      refine al_row hn (alLa _) ?_
      intro y w6 hy hY1 hB2
      refine g_str hY1 ?_ (h1 := li_one oneL) (hi := by kernel_rfl)
      intro w7 ho hY
      refine fl_end ?_
      clear hn
      subst ha
      dsimp only [fr, cnd, Act.put, cond_true]
      simp only [List.setIfInBounds_toArray, List.set_cons_zero, List.set_cons_succ]
      have hqy : q < y := by have := hQ9.blk.lt; omega
      replace hB2 := hB2.trans (ho.below (by omega))
      have hQ := hQ9.keep hB2
      have hB := hB9.trans (hB2.mono hB9.size)
      have hZ := hY
      have ld : ∀ W, Blk W y (liA oneL) 29 → _ := fun W h => ld_liL h rfl
      go_upto_region 14 with fail
      refine fh_start (S := (fun W => Blk W y (liA oneL) 29)) (by kernel_rfl) (hZ) (fun hS => ?_)
      generalize ha : Act.mk _ _ = a0
      have hn : a0.tmps.size = 95 := by rw [← ha]; kernel_rfl
      have h3 : (fr a0 []).eval (.tmp 3) = .int .i64 (j : Int) := by rw [← ha]; kernel_rfl
      refine fh_know hn rfl h3 ?_
      clear h3
      have h4 : (fr a0 [(3, true, .int .i64 (j : Int))]).eval (.tmp 4) = .pointer (some ⟨q, 0, none⟩) := by rw [← ha]; kernel_rfl
      refine fh_know hn rfl h4 ?_
      clear h4
      have h8 : (fr a0 [(4, true, .pointer (some ⟨q, 0, none⟩)), (3, true, .int .i64 (j : Int))]).eval (.tmp 8) = .pointer (some ⟨y, 0, none⟩) := by rw [← ha]; kernel_rfl
      refine fh_know hn rfl h8 ?_
      clear h8
      clear hS
      have hZ0 : Blk (World.drew w7) y (liA oneL) 29 := hZ
      have hQ0 : QuW (World.drew w7) q (j : Int) A n c (wsR j) := ⟨hQ.blk, hQ.own, hQ.fit⟩
      have hB0 := Below.drew hB
      refine h_mv 0 hn hZ0 ?_
      refine h_ld 1 hn hZ0 ?_
      have hv1 := (show ((wsR j).length : Int) - ((leftL oneL (wsR j)).length : Int) = 1 by rw [wsR_len, left_wsR]; omega)
      refine fh_callx 2 (d := 73) (R := fun v w' => v = .int .i64 1 ∧ ∃ A' n' c', QuW w' q (j : Int) A' n' c' (leftL oneL (wsR j)) ∧ QuK q A (World.drew w7) w' ∧ ∀ a, A' = some a → (World.drew w7).heap.size ≤ a.block) hn rfl (fun hk => call2_is en_spinney_queue_Queue_Settle _ _ _ _ _ _ _ _ _ _ _ (lk_at hk (i := 71) rfl (fun _ => rfl) rfl) (lk_at hk (i := 72) rfl (fun _ => rfl) rfl) rfl) ((qSettle_any q (j : Int) A n c (wsR j) oneL (World.drew w7) hQ0 oneL_sml (by omega)).mono fun _ _ ⟨he, hb2⟩ => ⟨_, he, by rw [hv1], hb2⟩) ?_ rfl rfl (by kernel_rfl) rfl
      rintro v v1 ⟨rfl, A1, n1, c1, hQ1, hk1, ha1⟩
      have hZ1 := hk1.keep hQ0 hZ0 (by omega) lt_ne
      have hB1 := hB0.trans (hk1.below (B := w.heap.size) hq (fun x hx => hQ0.above x hx) hB0.size)
      refine ⟨hZ1, ?_⟩
      refine h_eql 3 hn hZ1 ?_
      refine h_mv 4 hn hZ1 ?_
      refine h_mv 5 hn hZ1 ?_
      refine h_ld 6 hn hZ1 ?_
      refine fh_callx 7 (d := 78) (R := fun v w' => v = .agg (wW 2 1).cells ∧ Below v1.heap.size v1 w') hn rfl (fun hk => call2_is en_spinney_spinneylaw14_w _ _ _ _ _ _ _ _ _ (.int .i64 2) (.int .i64 1) (rfl) (rfl) rfl) ((w14_any 2 1 _).mono fun _ _ ⟨he, hb2⟩ => ⟨_, he, rfl, hb2⟩) ?_ rfl rfl (by kernel_rfl) rfl
      rintro v v2 ⟨rfl, hb2⟩
      have hZ2 := Blk.keep hZ1 hb2
      have hQ2 := QuW.keep hQ1 hb2
      have hB2 := hB1.trans (hb2.mono hB1.size)
      refine ⟨hZ2, ?_⟩
      have hn2 : n1 = j - 1 := by have h := hQ2.len; rw [left_wsR] at h; omega
      have hc3 := (takeI_ok (room := (j : Int)) (l := oneL) (ws := leftL oneL (wsR j)) (x := wW 2 1) (ask_two (gI_l2 j)) (by rw [left_wsR]; omega))
      refine fh_callx 8 (d := 79) (R := fun v w' => v = .int .i64 0 ∧ QTook q (j : Int) A1 n1 c1 (leftL oneL (wsR j)) (wW 2 1) 0 v2 w') hn rfl (fun hk => call3_is en_spinney_queue_Queue_Take _ _ _ _ _ _ _ _ _ _ _ _ _ (lk_at hk (i := 76) rfl (fun _ => rfl) rfl) (lk_at hk (i := 77) rfl (fun _ => rfl) rfl) (lk_at hk (i := 78) rfl (fun _ => rfl) rfl) rfl) ((qTake_any q (j : Int) A1 n1 c1 (leftL oneL (wsR j)) oneL (wW 2 1) v2 hQ2 rfl (ofL_sml oneL_sml fun x hx => by have := (left_mem hx).2; omega) (wW_fit _ _) (by omega)).mono fun _ _ ⟨he, hb2⟩ => ⟨_, he, by rw [hc3], by rw [← hc3]; exact hb2⟩) ?_ rfl rfl (by kernel_rfl) rfl
      rintro v v3 ⟨rfl, ht3⟩
      obtain ⟨A3, n3, c3, hQ3, hk3, ha3⟩ := ht3.ok rfl
      have hZ3 := hk3.keep hQ2 hZ2 (by omega) lt_ne
      have hB3 := hB2.trans (hk3.below (B := w.heap.size) hq (fun x hx => hQ2.above x hx) hB2.size)
      refine ⟨hZ3, ?_⟩
      have hn3 : n3 = j := by have h := hQ3.len; rw [List.length_append, left_wsR] at h; simp at h; omega
      refine h_bc 9 hn hZ3 ?_ (hx := fun W _ => er_eql _ _ _ W)
      refine h_op 10 hn hZ3 (fun W _ hk => x_an (fun _ => rfl) (lk_at hk (i := 75) rfl (fun _ => rfl) rfl) (fun _ => lk_at hk (i := 80) rfl (fun _ => rfl) rfl)) ?_
      refine h_mv 11 hn hZ3 ?_
      refine h_mv 12 hn hZ3 ?_
      refine h_mv 14 hn hZ3 ?_
      have hv4 := (show (n3 : Int) = (j : Int) by omega)
      refine fh_callx 13 (d := 84) (R := fun v w' => v = .int .i64 (j : Int) ∧ w' = v3) hn rfl (fun hk => call1_is en_spinney_queue_Queue_Len _ _ _ _ _ _ _ _ _ (lk_at hk (i := 83) rfl (fun _ => rfl) rfl) rfl) ((qLen_any q (j : Int) A3 n3 c3 ((leftL oneL (wsR j)) ++ [wW 2 1]) v3 hQ3).mono fun _ _ ⟨he, hb2⟩ => ⟨_, he, by rw [hv4], hb2⟩) ?_ rfl rfl (by kernel_rfl) rfl
      rintro v v4 ⟨rfl, rfl⟩
      refine ⟨hZ3, ?_⟩
      refine h_op 15 hn hZ3 (fun W _ hk => x_bn (lk_at hk (i := 84) rfl (fun _ => rfl) rfl) (lk_at hk (i := 85) rfl (fun _ => rfl) rfl) (in_eq 84 85 _ W)) ?_
      refine h_op 16 hn hZ3 (fun W _ hk => x_an (fun _ => rfl) (lk_at hk (i := 82) rfl (fun _ => rfl) rfl) (fun _ => lk_at hk (i := 86) rfl (fun _ => rfl) rfl)) ?_
      refine h_mv 17 hn hZ3 ?_
      refine h_mv 18 hn hZ3 ?_
      refine h_ld 19 hn hZ3 ?_
      refine fh_callx 20 (d := 91) (R := fun v w' => v = .agg (wW 2 2).cells ∧ Below v4.heap.size v4 w') hn rfl (fun hk => call2_is en_spinney_spinneylaw14_w _ _ _ _ _ _ _ _ _ (.int .i64 2) (.int .i64 2) (rfl) (rfl) rfl) ((w14_any 2 2 _).mono fun _ _ ⟨he, hb2⟩ => ⟨_, he, rfl, hb2⟩) ?_ rfl rfl (by kernel_rfl) rfl
      rintro v v5 ⟨rfl, hb5⟩
      have hZ5 := Blk.keep hZ3 hb5
      have hQ5 := QuW.keep hQ3 hb5
      have hB5 := hB3.trans (hb5.mono hB3.size)
      refine ⟨hZ5, ?_⟩
      have hc6 := (takeI_full (room := (j : Int)) (l := oneL) (ws := leftL oneL (wsR j) ++ [wW 2 1]) (x := wW 2 2) (ask_two2 (gI_l3 j)) (by rw [List.length_append, left_wsR]; simp; omega))
      refine fh_callx 21 (d := 92) (R := fun v w' => v = .int .i64 3 ∧ QTook q (j : Int) A3 n3 c3 ((leftL oneL (wsR j)) ++ [wW 2 1]) (wW 2 2) 3 v5 w') hn rfl (fun hk => call3_is en_spinney_queue_Queue_Take _ _ _ _ _ _ _ _ _ _ _ _ _ (lk_at hk (i := 89) rfl (fun _ => rfl) rfl) (lk_at hk (i := 90) rfl (fun _ => rfl) rfl) (lk_at hk (i := 91) rfl (fun _ => rfl) rfl) rfl) ((qTake_any q (j : Int) A3 n3 c3 ((leftL oneL (wsR j)) ++ [wW 2 1]) oneL (wW 2 2) v5 hQ5 rfl (ofL_sml oneL_sml fun x hx => by
        rcases List.mem_append.1 hx with h | h
        · have := (left_mem h).2; omega
        · rw [show x = wW 2 1 by simpa using h]; decide) (wW_fit _ _) (by omega)).mono fun _ _ ⟨he, hb2⟩ => ⟨_, he, by rw [hc6], by rw [← hc6]; exact hb2⟩) ?_ rfl rfl (by kernel_rfl) rfl
      rintro v v6 ⟨rfl, ht6⟩
      obtain ⟨hQ6, hb6⟩ := ht6.fail (by decide)
      have hZ6 := Blk.keep hZ5 hb6
      have hB6 := hB5.trans (hb6.mono hB5.size)
      refine ⟨hZ6, ?_⟩
      refine h_bc 22 hn hZ6 ?_ (hx := fun W _ => er_eql _ _ _ W)
      refine h_op 23 hn hZ6 (fun W _ hk => x_an (fun _ => rfl) (lk_at hk (i := 88) rfl (fun _ => rfl) rfl) (fun _ => lk_at hk (i := 93) rfl (fun _ => rfl) rfl)) ?_
      refine h_as 24 hn hZ6 ?_
      refine fh_end (by kernel_rfl) ?_
      clear hn
      subst ha
      dsimp only [fr, cnd, Act.put, cond_true]
      simp only [List.setIfInBounds_toArray, List.set_cons_zero, List.set_cons_succ]
      have hBn := hB6
      clear ld
      simp only [beq_self_eq_true]
      go_wp2_with fail
      go_ret
      exact ⟨rfl, hBn⟩
end Go.Proofs.Ytkfhkfddhijkcaa
