/-
  WHAT IS PROVED: the fixed fact of chapter 14's law. Conditions: those typed in each theorem.
-/
import Derived.Test.YtkfhkfddhijkcaaQuE
namespace Go.Proofs.Ytkfhkfddhijkcaa
open Go.RowKit

set_option maxRecDepth 100000 in
set_option maxHeartbeats 4000000 in
theorem awake14_any (w : World) : Calls Try.prog 15 #[] w fun e w' => e = .returned (.bool true) ∧ Below w.heap.size w w' := by
  go_enter Try.func15, Try.ntmps15
  go_wp2_with fail
  refine (qNew_any 3 w (by decide) (by decide)).mono ?_
  rintro e w1 ⟨q, rfl, hq, hQ, hB⟩
  go_upto_region 4 with fail
  refine wp_region_lit ?_
  refine fl_start ?_
  generalize ha : Act.mk _ _ = a0
  have hn : a0.tmps.size = 45 := by rw [← ha]; kernel_rfl
  refine fl_op (v := .agg (liA zL)) hn rfl (by rfl) rfl (fun hk _ => x_bdQ (vs := #[]) (by simp) (bdLa0 w1)) ?_
  refine al_row hn (alLa w1) ?_
  intro z w2 hz hZ1 hB2
  refine g_str hZ1 ?_ (h1 := li_one zL) (hi := by kernel_rfl)
  intro w3 ho hZ
  refine fl_end ?_
  clear hn
  subst ha
  dsimp only [fr, cnd, Act.put, cond_true]
  simp only [List.setIfInBounds_toArray, List.set_cons_zero, List.set_cons_succ]
  have hqz : q < z := by have := hQ.blk.lt; omega
  replace hB2 := hB2.trans (ho.below (by omega))
  replace hQ := hQ.keep hB2
  replace hB := hB.trans (hB2.mono hB.size)
  clear hZ1 hB2 ho
  go_upto_region 5 with fail
  have ld : ∀ W, Blk W z (liA zL) 29 → _ := fun W h => ld_liL h rfl
  have bd : ∀ W, Blk W z (liA zL) 29 → _ := fun W _ => bdLa1 W
  refine fh_start (S := (fun W => Blk W z (liA zL) 29)) (by kernel_rfl) (hZ) (fun hS => ?_)
  generalize ha : Act.mk _ _ = a0
  have hn : a0.tmps.size = 45 := by rw [← ha]; kernel_rfl
  have h1 : (fr a0 []).eval (.tmp 1) = .pointer (some ⟨q, 0, none⟩) := by rw [← ha]; kernel_rfl
  refine fh_know hn rfl h1 ?_
  clear h1
  have h3 : (fr a0 [(1, true, .pointer (some ⟨q, 0, none⟩))]).eval (.tmp 3) = .pointer (some ⟨z, 0, none⟩) := by rw [← ha]; kernel_rfl
  refine fh_know hn rfl h3 ?_
  clear h3
  clear hS
  have hZ0 : Blk (World.drew w3) z (liA zL) 29 := hZ
  have hQ0 : QuW (World.drew w3) q 3 none 0 0 ([] : List Wr) := ⟨hQ.blk, hQ.own, hQ.fit⟩
  have hB0 := Below.drew hB
  refine h_mv 0 hn hZ0 ?_
  refine h_ld 1 hn hZ0 ?_
  refine fh_callx 2 (d := 17) (R := fun v w' => v = .agg (wW 1 1).cells ∧ Below (World.drew w3).heap.size (World.drew w3) w') hn rfl (fun hk => call2_is en_spinney_spinneylaw14_w _ _ _ _ _ _ _ _ _ (.int .i64 1) (.int .i64 1) (rfl) (rfl) rfl) ((w14_any 1 1 _).mono fun _ _ ⟨he, hb2⟩ => ⟨_, he, rfl, hb2⟩) ?_ rfl rfl (by kernel_rfl) rfl
  rintro v v1 ⟨rfl, hb1⟩
  have hZ1 := Blk.keep hZ0 hb1
  have hQ1 := QuW.keep hQ0 hb1
  have hB1 := hB0.trans (hb1.mono hB0.size)
  refine ⟨hZ1, ?_⟩
  have hc2 := (takeI_ok (room := 3) (l := zL) (ws := []) (x := wW 1 1) (by decide) (by decide))
  refine fh_callx 3 (d := 18) (R := fun v w' => v = .int .i64 0 ∧ QTook q 3 none 0 0 ([] : List Wr) (wW 1 1) 0 v1 w') hn rfl (fun hk => call3_is en_spinney_queue_Queue_Take _ _ _ _ _ _ _ _ _ _ _ _ _ (lk_at hk (i := 15) rfl (fun _ => rfl) rfl) (lk_at hk (i := 16) rfl (fun _ => rfl) rfl) (lk_at hk (i := 17) rfl (fun _ => rfl) rfl) rfl) ((qTake_any q 3 none 0 0 ([] : List Wr) zL (wW 1 1) v1 hQ1 rfl (ofL_sml zL_sml (by decide)) (wW_fit _ _) (by decide)).mono fun _ _ ⟨he, hb2⟩ => ⟨_, he, by rw [hc2], by rw [← hc2]; exact hb2⟩) ?_ rfl rfl (by kernel_rfl) rfl
  rintro v v2 ⟨rfl, ht2⟩
  obtain ⟨A2, n2, c2, hQ2, hk2, ha2⟩ := ht2.ok rfl
  have hZ2 := hk2.keep hQ1 hZ1 (by omega) lt_ne
  have hB2 := hB1.trans (hk2.below (B := w.heap.size) hq (fun x hx => hQ1.above x hx) hB1.size)
  refine ⟨hZ2, ?_⟩
  refine h_bc 4 hn hZ2 ?_ (hx := fun W _ => er_eql _ _ _ W)
  refine h_mv 5 hn hZ2 ?_
  refine h_mv 6 hn hZ2 ?_
  refine h_ld 7 hn hZ2 ?_
  refine fh_callx 8 (d := 23) (R := fun v w' => v = .agg (wW 1 3).cells ∧ Below v2.heap.size v2 w') hn rfl (fun hk => call2_is en_spinney_spinneylaw14_w _ _ _ _ _ _ _ _ _ (.int .i64 1) (.int .i64 3) (rfl) (rfl) rfl) ((w14_any 1 3 _).mono fun _ _ ⟨he, hb2⟩ => ⟨_, he, rfl, hb2⟩) ?_ rfl rfl (by kernel_rfl) rfl
  rintro v v3 ⟨rfl, hb3⟩
  have hZ3 := Blk.keep hZ2 hb3
  have hQ3 := QuW.keep hQ2 hb3
  have hB3 := hB2.trans (hb3.mono hB2.size)
  refine ⟨hZ3, ?_⟩
  have hc4 := (takeI_of (room := 3) (l := zL) (ws := [] ++ [wW 1 1]) (x := wW 1 3) (a := 15) (by decide) (by decide))
  refine fh_callx 9 (d := 24) (R := fun v w' => v = .int .i64 15 ∧ QTook q 3 A2 n2 c2 (([] : List Wr) ++ [wW 1 1]) (wW 1 3) 15 v3 w') hn rfl (fun hk => call3_is en_spinney_queue_Queue_Take _ _ _ _ _ _ _ _ _ _ _ _ _ (lk_at hk (i := 21) rfl (fun _ => rfl) rfl) (lk_at hk (i := 22) rfl (fun _ => rfl) rfl) (lk_at hk (i := 23) rfl (fun _ => rfl) rfl) rfl) ((qTake_any q 3 A2 n2 c2 (([] : List Wr) ++ [wW 1 1]) zL (wW 1 3) v3 hQ3 rfl (ofL_sml zL_sml (by decide)) (wW_fit _ _) (by have := hQ3.len; simp at this; omega)).mono fun _ _ ⟨he, hb2⟩ => ⟨_, he, by rw [hc4], by rw [← hc4]; exact hb2⟩) ?_ rfl rfl (by kernel_rfl) rfl
  rintro v v4 ⟨rfl, ht4⟩
  obtain ⟨hQ4, hb4⟩ := ht4.fail (by decide)
  have hZ4 := Blk.keep hZ3 hb4
  have hB4 := hB3.trans (hb4.mono hB3.size)
  refine ⟨hZ4, ?_⟩
  refine h_bc 10 hn hZ4 ?_ (hx := fun W _ => er_eql _ _ _ W)
  refine h_op 11 hn hZ4 (fun W _ hk => x_an (fun _ => rfl) (lk_at hk (i := 20) rfl (fun _ => rfl) rfl) (fun _ => lk_at hk (i := 25) rfl (fun _ => rfl) rfl)) ?_
  refine h_mv 12 hn hZ4 ?_
  refine h_mv 13 hn hZ4 ?_
  refine h_ld 14 hn hZ4 ?_
  refine fh_callx 15 (d := 30) (R := fun v w' => v = .agg (wW 1 1).cells ∧ Below v4.heap.size v4 w') hn rfl (fun hk => call2_is en_spinney_spinneylaw14_w _ _ _ _ _ _ _ _ _ (.int .i64 1) (.int .i64 1) (rfl) (rfl) rfl) ((w14_any 1 1 _).mono fun _ _ ⟨he, hb2⟩ => ⟨_, he, rfl, hb2⟩) ?_ rfl rfl (by kernel_rfl) rfl
  rintro v v5 ⟨rfl, hb5⟩
  have hZ5 := Blk.keep hZ4 hb5
  have hQ5 := QuW.keep hQ4 hb5
  have hB5 := hB4.trans (hb5.mono hB4.size)
  refine ⟨hZ5, ?_⟩
  have hc6 := (takeI_of (room := 3) (l := zL) (ws := [] ++ [wW 1 1]) (x := wW 1 1) (a := 6) (by decide) (by decide))
  refine fh_callx 16 (d := 31) (R := fun v w' => v = .int .i64 6 ∧ QTook q 3 A2 n2 c2 (([] : List Wr) ++ [wW 1 1]) (wW 1 1) 6 v5 w') hn rfl (fun hk => call3_is en_spinney_queue_Queue_Take _ _ _ _ _ _ _ _ _ _ _ _ _ (lk_at hk (i := 28) rfl (fun _ => rfl) rfl) (lk_at hk (i := 29) rfl (fun _ => rfl) rfl) (lk_at hk (i := 30) rfl (fun _ => rfl) rfl) rfl) ((qTake_any q 3 A2 n2 c2 (([] : List Wr) ++ [wW 1 1]) zL (wW 1 1) v5 hQ5 rfl (ofL_sml zL_sml (by decide)) (wW_fit _ _) (by have := hQ5.len; simp at this; omega)).mono fun _ _ ⟨he, hb2⟩ => ⟨_, he, by rw [hc6], by rw [← hc6]; exact hb2⟩) ?_ rfl rfl (by kernel_rfl) rfl
  rintro v v6 ⟨rfl, ht6⟩
  obtain ⟨hQ6, hb6⟩ := ht6.fail (by decide)
  have hZ6 := Blk.keep hZ5 hb6
  have hB6 := hB5.trans (hb6.mono hB5.size)
  refine ⟨hZ6, ?_⟩
  refine h_bc 17 hn hZ6 ?_ (hx := fun W _ => er_eql _ _ _ W)
  refine h_op 18 hn hZ6 (fun W _ hk => x_an (fun _ => rfl) (lk_at hk (i := 27) rfl (fun _ => rfl) rfl) (fun _ => lk_at hk (i := 32) rfl (fun _ => rfl) rfl)) ?_
  refine h_mv 19 hn hZ6 ?_
  refine h_mv 20 hn hZ6 ?_
  refine h_op 21 hn hZ6 (fun W _ hk => x_bdQ (fs := #[(1, .const (.int .i64 1))]) (vs := #[(1, .int .i64 1)]) (by first | rfl | (simp only [List.map_toArray, List.map_cons, List.map_nil]; rfl)) (bdLa1 W)) ?_
  have hv7 := (show (([] ++ [wW 1 1] : List Wr).length : Int) - ((leftL oneL ([] ++ [wW 1 1])).length : Int) = 1 by decide)
  refine fh_callx 22 (d := 37) (R := fun v w' => v = .int .i64 1 ∧ ∃ A' n' c', QuW w' q 3 A' n' c' (leftL oneL (([] : List Wr) ++ [wW 1 1])) ∧ QuK q A2 v6 w' ∧ ∀ a, A' = some a → v6.heap.size ≤ a.block) hn rfl (fun hk => call2_is en_spinney_queue_Queue_Settle _ _ _ _ _ _ _ _ _ _ _ (lk_at hk (i := 35) rfl (fun _ => rfl) rfl) (lk_at hk (i := 36) rfl (fun _ => rfl) rfl) rfl) ((qSettle_any q 3 A2 n2 c2 (([] : List Wr) ++ [wW 1 1]) oneL v6 hQ6 oneL_sml (by have := hQ6.len; simp at this; omega)).mono fun _ _ ⟨he, hb2⟩ => ⟨_, he, by rw [hv7], hb2⟩) ?_ rfl rfl (by kernel_rfl) rfl
  rintro v v7 ⟨rfl, A7, n7, c7, hQ7, hk7, ha7⟩
  have hZ7 := hk7.keep hQ6 hZ6 (by omega) lt_ne
  have hB7 := hB6.trans (hk7.below (B := w.heap.size) hq (fun x hx => hQ6.above x hx) hB6.size)
  refine ⟨hZ7, ?_⟩
  refine h_eql 23 hn hZ7 ?_
  refine h_op 24 hn hZ7 (fun W _ hk => x_an (fun _ => rfl) (lk_at hk (i := 34) rfl (fun _ => rfl) rfl) (fun _ => lk_at hk (i := 38) rfl (fun _ => rfl) rfl)) ?_
  refine h_mv 25 hn hZ7 ?_
  refine h_mv 26 hn hZ7 ?_
  have hv8 := (show (n7 : Int) = 0 from (by have h := hQ7.len; have e : (leftL oneL ([] ++ [wW 1 1])).length = 0 := (by decide); omega))
  refine fh_callx 27 (d := 42) (R := fun v w' => v = .int .i64 0 ∧ w' = v7) hn rfl (fun hk => call1_is en_spinney_queue_Queue_Len _ _ _ _ _ _ _ _ _ (lk_at hk (i := 41) rfl (fun _ => rfl) rfl) rfl) ((qLen_any q 3 A7 n7 c7 (leftL oneL (([] : List Wr) ++ [wW 1 1])) v7 hQ7).mono fun _ _ ⟨he, hb2⟩ => ⟨_, he, by rw [hv8], hb2⟩) ?_ rfl rfl (by kernel_rfl) rfl
  rintro v v8 ⟨rfl, rfl⟩
  refine ⟨hZ7, ?_⟩
  refine h_eql 28 hn hZ7 ?_
  refine h_op 29 hn hZ7 (fun W _ hk => x_an (fun _ => rfl) (lk_at hk (i := 40) rfl (fun _ => rfl) rfl) (fun _ => lk_at hk (i := 43) rfl (fun _ => rfl) rfl)) ?_
  refine h_as 30 hn hZ7 ?_
  refine fh_end (by kernel_rfl) ?_
  clear hn
  subst ha
  dsimp only [fr, cnd, Act.put, cond_true]
  simp only [List.setIfInBounds_toArray, List.set_cons_zero, List.set_cons_succ]
  have hBn := hB7
  clear ld bd
  go_wp2_with fail
  go_ret
  exact ⟨rfl, hBn⟩
end Go.Proofs.Ytkfhkfddhijkcaa
