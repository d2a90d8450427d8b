/-
  WHAT IS PROVED: the law BurlOf. Conditions: those typed in each theorem.
-/
import Derived.Test.YtkfhkfddhijkcaaBuI
import Derived.Test.YtkfhkfddhijkcaaBuJ
import Derived.Test.YtkfhkfddhijkcaaRRefGood
import Derived.Test.YtkfhkfddhijkcaaGQ18
namespace Go.Proofs.Ytkfhkfddhijkcaa
open Go.RowKit

theorem en_spinney_spinneylaw28_BurlOf : ∀ args w, (callFunc 8 args).run Try.prog w = .ok (.enter 8 args) w := enters_of Try.func8 (by kernel_rfl) rfl
theorem en_spinney_spinneyref07_SameCells : ∀ args w, (callFunc 42 args).run Try.prog w = .ok (.enter 42 args) w := enters_of Try.func42 (by kernel_rfl) rfl

set_option maxRecDepth 100000 in
set_option maxHeartbeats 4000000 in
theorem burlOf_many (A : Option Addr) (n c : Nat) (j : Int) (w : World) (hs : 60 < n) : Calls Try.prog 8 #[.slice A n c, .int .i64 j] w fun e w' => e = .returned (.bool true) ∧ Below w.heap.size w w' := by
  have i1 : (60 : Int) < (n : Int) := by omega
  go_enter Try.func8, Try.ntmps8
  go_wp2_with fail
  refine (awake28_any w).mono ?_
  rintro e w1 ⟨rfl, hb1⟩
  go_wp2_with fail
  refine (awake28_any w1).mono ?_
  rintro e w2 ⟨rfl, hb2⟩
  go_wp2_with fail
  go_ret
  exact ⟨rfl, hb1.trans (hb2.mono hb1.size)⟩
set_option maxRecDepth 100000 in
set_option maxHeartbeats 4000000 in
theorem burlOf_bad (A : Option Addr) (n c : Nat) (l : List Cl) (j : Int) (w : World) (hn : l.length = n) (hr : RdX 4 w.heap.size w A (l.map Cl.cells)) (hm : n ≤ 60) (hf : ∀ x, x ∈ l → x.fits) (hg : goodCls l = false) : Calls Try.prog 8 #[.slice A n c, .int .i64 j] w fun e w' => e = .returned (.bool true) ∧ Below w.heap.size w w' := by
  have i1 : ¬ (60 : Int) < (n : Int) := by omega
  go_enter Try.func8, Try.ntmps8
  go_wp2_with fail
  refine (awake28_any w).mono ?_
  rintro e w1 ⟨rfl, hb1⟩
  have hr1 := (hr.keep hb1 (Nat.le_refl _)).more hb1.size
  have cO := buOf_bad A n c l w1 hn hr1 (by omega) hf hg
  go_upto_region 3 with fail
  refine wp_region_lit ?_
  refine fl_start ?_
  generalize ha : Act.mk _ _ = a0
  have hn : a0.tmps.size = 64 := by rw [← ha]; kernel_rfl
  have h0 : (fr a0 []).eval (.tmp 0) = .slice A n c := by rw [← ha]; kernel_rfl
  refine fl_know hn rfl h0 ?_
  clear h0
  refine g_mv hn ?_
  refine g_c1x en_spinney_burl_Of hn (R := fun v w3 => v = .tuple #[.agg (buC 0 (List.replicate 16 0)), .int .i64 2] ∧ Below w1.heap.size w1 w3) (cO.mono fun _ _ ⟨he, hb3⟩ => ⟨_, he, rfl, hb3⟩) ?_
  rintro v w3 ⟨rfl, hb3⟩
  refine g_mv hn ?_
  refine g_ex hn ?_
  refine g_ex hn ?_
  refine al_row hn (alBu w3) ?_
  intro q w4 hq hY hb4
  refine g_str hY ?_ (h1 := bu_one _ _)
  intro w5 ho5 hY5
  refine g_as hn ?_
  refine fl_end ?_
  clear hn
  subst ha
  dsimp only [fr, cnd, Act.put, cond_true]
  simp only [List.setIfInBounds_toArray, List.set_cons_zero, List.set_cons_succ]
  have hB3 : Below w.heap.size w w3 := hb1.trans (hb3.mono hb1.size)
  have hB4 : Below w.heap.size w w4 := hB3.trans (hb4.mono hB3.size)
  have hB5 : Below w.heap.size w w5 := hB4.trans (ho5.below (by have := hB3.size; omega))
  have cG := refGoodCs_any A n c l w5 hn (hr.keep hB5 (Nat.le_refl _)) hB5.size (Nat.le_trans hm (by decide)) hf
  rw [hg] at cG
  clear hq hY hb4 ho5 cO
  go_wp2_with fail
  refine cG.mono ?_
  rintro e w6 ⟨rfl, hb6⟩
  have hY6 := hY5.keep hb6
  have hB6 : Below w.heap.size w w6 := hB5.trans (hb6.mono hB5.size)
  clear cG hY5 hb6
  have l1 := ld_bu hY6 (by simp)
  go_upto_region 5 with fail
  refine wp_region_lit ?_
  refine fl_start ?_
  generalize ha : Act.mk _ _ = a0
  have hn : a0.tmps.size = 64 := by rw [← ha]; kernel_rfl
  have h5 : (fr a0 []).eval (.tmp 5) = .pointer (some ⟨q, 0, none⟩) := by rw [← ha]; kernel_rfl
  refine fl_know hn rfl h5 ?_
  clear h5
  have h6 : (fr a0 [(5, true, .pointer (some ⟨q, 0, none⟩))]).eval (.tmp 6) = .int .i64 2 := by rw [← ha]; kernel_rfl
  refine fl_know hn rfl h6 ?_
  clear h6
  refine g_mv hn ?_
  refine g_bc hn ?_ (v := .bool true) (hr := er_eql _ 2 2 _)
  refine g_mv hn ?_
  refine g_ld hn ?_
  refine g_bd hn ?_ (qs := #[]) (v := .agg (buC 0 (List.replicate 16 0))) (g := true) (hp := fun _ _ => by simp) (hx := bdBu _)
  refine g_bn hn ?_ (v := .bool true) (hr := burl_eqlC _ (.inl rfl) _ _ 0 _ (by simp) _)
  refine g_an hn ?_
  refine g_as hn ?_
  refine fl_end ?_
  clear hn l1
  subst ha
  dsimp only [fr, cnd, Act.put, cond_true]
  simp only [List.setIfInBounds_toArray, List.set_cons_zero, List.set_cons_succ]
  go_wp2_with fail
  go_ret
  exact ⟨rfl, hB6⟩
set_option maxRecDepth 100000 in
set_option maxHeartbeats 4000000 in
theorem burlOf_good (A : Option Addr) (n c : Nat) (l : List Cl) (j : Int) (w : World) (hn : l.length = n) (hr : RdX 4 w.heap.size w A (l.map Cl.cells)) (hm : n ≤ 60) (hf : ∀ x, x ∈ l → x.fits) (hg : goodCls l = true) : Calls Try.prog 8 #[.slice A n c, .int .i64 j] w fun e w' => e = .returned (.bool true) ∧ Below w.heap.size w w' := by
  have i1 : ¬ (60 : Int) < (n : Int) := by omega
  have hLl := lvTo_len l
  have hbs : (burlC l).size = 17 := by unfold burlC; rw [buC_size, hLl]
  have HN := Lib.hid hn
  have HR := Lib.hid (fun W (h : Below w.heap.size w W) => hr.keep (W' := W) h (Nat.le_refl _))
  have hgm := goodCls_mem hg
  go_enter Try.func8, Try.ntmps8
  go_wp2_with fail
  refine (awake28_any w).mono ?_
  rintro e w1 ⟨rfl, hb1⟩
  have hr1 := (hr.keep hb1 (Nat.le_refl _)).more hb1.size
  have cO := buOf_good A n c l w1 hn hr1 (by omega) hf hg
  go_upto_region 3 with fail
  refine wp_region_lit ?_
  refine fl_start ?_
  generalize ha : Act.mk _ _ = a0
  have hn : a0.tmps.size = 64 := by rw [← ha]; kernel_rfl
  have h0 : (fr a0 []).eval (.tmp 0) = .slice A n c := by rw [← ha]; kernel_rfl
  refine fl_know hn rfl h0 ?_
  clear h0
  refine g_mv hn ?_
  refine g_c1x en_spinney_burl_Of hn (R := fun v w3 => v = .tuple #[.agg (burlC l), .int .i64 0] ∧ Below w1.heap.size w1 w3) (cO.mono fun _ _ ⟨he, hb3⟩ => ⟨_, he, rfl, hb3⟩) ?_
  rintro v w3 ⟨rfl, hb3⟩
  refine g_mv hn ?_
  refine g_ex hn ?_
  refine g_ex hn ?_
  refine al_row hn (alBu w3) ?_
  intro q w4 hq hY hb4
  refine g_str (c := burlC l) hY ?_ (hs := by rw [hbs]; rfl) (hi := by rw [hbs]; kernel_rfl) (h1 := bu_one _ _)
  intro w5 ho5 hY5
  refine g_as hn ?_
  refine fl_end ?_
  clear hn
  subst ha
  dsimp only [fr, cnd, Act.put, cond_true]
  simp only [List.setIfInBounds_toArray, List.set_cons_zero, List.set_cons_succ]
  have hB3 : Below w.heap.size w w3 := hb1.trans (hb3.mono hb1.size)
  have hB4 : Below w.heap.size w w4 := hB3.trans (hb4.mono hB3.size)
  have hB5 : Below w.heap.size w w5 := hB4.trans (ho5.below (by have := hB3.size; omega))
  have cG := refGoodCs_any A n c l w5 hn (hr.keep hB5 (Nat.le_refl _)) hB5.size (Nat.le_trans hm (by decide)) hf
  rw [hg] at cG
  have hqw : w.heap.size ≤ q := by have := hB3.size; omega
  clear hq hY hb4 ho5 cO
  go_wp2_with fail
  refine cG.mono ?_
  rintro e w6 ⟨rfl, hb6⟩
  have hY6 := hY5.keep hb6
  have hB6 : Below w.heap.size w w6 := hB5.trans (hb6.mono hB5.size)
  clear cG hY5 hb6 hr1 hb1 hb3 hB3 hB4 hB5
  clear hr
  go_wp2_with fail
  go_loopw [7, 9, 35] (fun h7 _ i wr => ∃ (k : Nat) (A7 : Option Addr) (n7 c7 : Nat), k ≤ n ∧ i = .int .i64 k ∧ h7 = .slice A7 n7 c7 ∧ OwnX tCl 4 (q + 1) wr A7 n7 c7 ((atL (l.take k) j).map Cl.cells) ∧ Blk wr q (burlC l) 70 ∧ Below w.heap.size w wr) (fun _ _ i _ => n - (intOf i).toNat)
  case atStart => exact ⟨0, none, 0, 0, Nat.zero_le _, rfl, rfl, OwnX.nil _ _ _ _, hY6, hB6⟩
  case round =>
    clear hY6 hB6
    obtain ⟨k, A7, n7, c7, hk, rfl, rfl, hO, hY, hB⟩ := hrel
    by_cases hlt : k < n
    · obtain ⟨x, hx⟩ : ∃ x, l[k]? = some x := ⟨_, List.getElem?_eq_getElem (show k < l.length by have := HN.out; omega)⟩
      obtain ⟨ad, rfl, _, hc⟩ := HR.out wr hB k x.cells (by rw [List.getElem?_map, hx]; rfl)
      have i2 : (k : Int) < (n : Int) := by omega
      have hxg := hgm x (List.mem_of_getElem? hx)
      have HX : Hid (atL (l.take (k + 1)) j = if (((leafL x.ky.data.toList : Nat) : Int) == j) = true then atL (l.take k) j ++ [x] else atL (l.take k) j) := atL_next j hx
      have hn7 : n7 ≤ k := by
        have h := hO.len
        rw [List.length_map] at h
        have h2 := atL_len (l.take k) j
        rw [List.length_take] at h2
        omega
      have ix := cix wr ad n c k hlt
      have ld := cld hc
      clear hc
      go_upto_region 9 with fail
      refine wp_region_lit ?_
      refine fl_start ?_
      generalize ha : Act.mk _ _ = a0
      have hn : a0.tmps.size = 64 := by rw [← ha]; kernel_rfl
      have h33 : (fr a0 []).eval (.tmp 33) = .slice (some ad) n c := by rw [← ha]; kernel_rfl
      refine fl_know hn rfl h33 ?_
      clear h33
      have h35 : (fr a0 [(33, true, .slice (some ad) n c)]).eval (.tmp 35) = .int .i64 (k : Int) := by rw [← ha]; kernel_rfl
      refine fl_know hn rfl h35 ?_
      clear h35
      refine g_ix hn ?_
      refine g_ld hn ?_
      refine al_row hn (alC wr) ?_
      intro g w3 hgq hG hb3
      refine g_str hG ?_ (h1 := cl_oneC x)
      intro w4 ho hG4
      refine fl_end ?_
      clear hn
      subst ha
      dsimp only [fr, cnd, Act.put, cond_true]
      simp only [List.setIfInBounds_toArray, List.set_cons_zero, List.set_cons_succ]
      have hW4 : Below wr.heap.size wr w4 := hb3.trans (ho.below (by omega))
      have hO4 := hO.keep hW4
      have hY4 := hY.keep hW4
      have hB4 : Below w.heap.size w w4 := hB.trans (hW4.mono hB.size)
      have hgw : q < g := by have := hY.lt; omega
      clear ix ld hG hb3 ho hW4 hO hY hgq
      have c0 : w4.cell? ⟨g, 0, none⟩ = some (.string x.ky) := hG4.cell 0
      go_wp2_with fail
      refine (refLeaf_any x.ky w4 (by have := (cl_in hxg).1; omega)).mono ?_
      rintro e w5 ⟨rfl, hb5⟩
      have hO5 := hO4.keep hb5
      have hY5 := hY4.keep hb5
      have hG5 := hG4.keep hb5
      have hB5 : Below w.heap.size w w5 := hB4.trans (hb5.mono hB4.size)
      clear hO4 hY4 hG4 c0 hb5
      by_cases hj : (((leafL x.ky.data.toList : Nat) : Int) == j) = true
      · have HZ : Hid (atL (l.take (k + 1)) j = atL (l.take k) j ++ [x]) := by show _ = _; rw [HX.out, if_pos hj]
        have lG := cld_blk hG5
        go_upto_region 11 with fail
        refine wp_region_lit ?_
        refine fl_start ?_
        generalize ha : Act.mk _ _ = a0
        have hn : a0.tmps.size = 64 := by rw [← ha]; kernel_rfl
        have h7 : (fr a0 []).eval (.tmp 7) = .slice A7 n7 c7 := by rw [← ha]; kernel_rfl
        refine fl_know hn rfl h7 ?_
        clear h7
        have h9 : (fr a0 [(7, true, .slice A7 n7 c7)]).eval (.tmp 9) = .pointer (some ⟨g, 0, none⟩) := by rw [← ha]; kernel_rfl
        refine fl_know hn rfl h9 ?_
        clear h9
        refine g_mv hn ?_
        refine g_ld hn ?_
        refine g_bsX hn Try.underlying76 clEl_info (by decide) (by decide) rfl (bsCl x) ?_
        intro g2 w7 hg2 hG2 hb7
        have hO7 := hO5.keep hb7
        have hY7 := hY5.keep hb7
        have hB7 : Below w.heap.size w w7 := hB5.trans (hb7.mono hB5.size)
        refine g_apX (base := q + 1) (m := 1) (xs := [x.cells]) hn Try.underlying76 clEl_info rfl (by decide) (by decide) hO7 (clEl_szd [x]) rfl (fun y hy u hu => ?_) (blk_rdC hG2) (by omega) (by have := hY7.lt; omega) (.inr (by decide)) ?_
        · rw [List.mem_singleton] at hy
          subst hy
          have h := cl_oneC x
          rw [Array.all_eq_true'] at h
          exact h u (by simpa using hu)
        rintro v w8 ⟨A8, c8, rfl, hO8, hB8, _⟩
        refine g_as hn ?_
        refine fl_end ?_
        clear hn
        subst ha
        dsimp only [fr, cnd, Act.put, cond_true]
        simp only [List.setIfInBounds_toArray, List.set_cons_zero, List.set_cons_succ]
        have hO9 : OwnX tCl 4 (q + 1) w8 A8 (n7 + 1) c8 ((atL (l.take (k + 1)) j).map Cl.cells) := by rw [HZ.out, List.map_append]; exact hO8
        have hY9 := hY7.keep' hB8 (by omega)
        have hB9 : Below w.heap.size w w8 := hB7.trans (hB8.mono (by omega))
        clear hO5 hO7 hO8 lG hG2 hG5 hY5 hY7 hB7 hB8
        go_wp2_with fail
        refine ⟨?_, ?_⟩
        · first
          | exact ⟨k + 1, A8, n7 + 1, c8, by omega, by go_num, rfl, hO9, hY9, hB9⟩
          | repeat apply Exists.intro
            refine ⟨?_, rfl⟩
            exact ⟨k + 1, A8, n7 + 1, c8, by omega, by go_num, rfl, hO9, hY9, hB9⟩
        · simp [intOf]; omega
      · have hj2 : (((leafL x.ky.data.toList : Nat) : Int) == j) = false := by simpa using hj
        have hO9 : OwnX tCl 4 (q + 1) w5 A7 n7 c7 ((atL (l.take (k + 1)) j).map Cl.cells) := by rw [HX.out, if_neg hj]; exact hO5
        clear hO5 hG5
        go_wp2_with fail
        refine ⟨?_, ?_⟩
        · first
          | exact ⟨k + 1, A7, n7, c7, by omega, by go_num, rfl, hO9, hY5, hB5⟩
          | repeat apply Exists.intro
            refine ⟨?_, rfl⟩
            exact ⟨k + 1, A7, n7, c7, by omega, by go_num, rfl, hO9, hY5, hB5⟩
        · simp [intOf]; omega
    · have i2 : ¬ (k : Int) < (n : Int) := by omega
      have e : l.take k = l := List.take_of_length_le (by have := HN.out; omega)
      rw [e] at hO
      have hn7 : n7 ≤ 60 := by
        have h := hO.len
        rw [List.length_map] at h
        have h2 := atL_len l j
        have := HN.out
        omega
      have hl7 : (atL l j).length = n7 := by
        have h := hO.len
        rw [List.length_map] at h
        exact h
      have l1 : ∀ W, Kp wr W → _ := fun W h => ld_bu (h.blk hY) hLl
      go_upto_region 13 with fail
      refine fh_start (S := Kp wr) (by kernel_rfl) (Kp.drew _) (fun hS => ?_)
      generalize ha : Act.mk _ _ = a0
      have hn : a0.tmps.size = 64 := by rw [← ha]; kernel_rfl
      have h0 : (fr a0 []).eval (.tmp 0) = .slice A n c := by rw [← ha]; kernel_rfl
      refine fh_know hn rfl h0 ?_
      clear h0
      have h1 : (fr a0 [(0, true, .slice A n c)]).eval (.tmp 1) = .int .i64 j := by rw [← ha]; kernel_rfl
      refine fh_know hn rfl h1 ?_
      clear h1
      have h5 : (fr a0 [(1, true, .int .i64 j), (0, true, .slice A n c)]).eval (.tmp 5) = .pointer (some ⟨q, 0, none⟩) := by rw [← ha]; kernel_rfl
      refine fh_know hn rfl h5 ?_
      clear h5
      have h6 : (fr a0 [(5, true, .pointer (some ⟨q, 0, none⟩)), (1, true, .int .i64 j), (0, true, .slice A n c)]).eval (.tmp 6) = .int .i64 0 := by rw [← ha]; kernel_rfl
      refine fh_know hn rfl h6 ?_
      clear h6
      have h7 : (fr a0 [(6, true, .int .i64 0), (5, true, .pointer (some ⟨q, 0, none⟩)), (1, true, .int .i64 j), (0, true, .slice A n c)]).eval (.tmp 7) = .slice A7 n7 c7 := by rw [← ha]; kernel_rfl
      refine fh_know hn rfl h7 ?_
      clear h7
      refine h_mv 0 hn hS ?_
      refine h_bc 1 hn hS ?_ (v := .bool true) (hx := fun W _ => er_eql _ 0 0 W)
      refine h_mv 2 hn hS ?_
      refine h_ld 3 hn hS ?_
      refine h_mv 4 hn hS ?_
      refine fh_callx 5 (d := 54) (R := fun v w2 => v = .agg (burlC l) ∧ Below wr.heap.size wr w2) hn rfl (fun hk => call1_is en_spinney_spinneyref28_Of _ _ _ _ _ _ _ _ (.slice A n c) (lk_at hk (i := 53) rfl (fun _ => rfl) rfl) rfl) ((refBu_any A n c l wr.drew HN.out ((HR.out wr.drew hB.drew).more hB.drew.size) (by omega) hf hgm).mono fun _ _ ⟨he, hb2⟩ => ⟨_, he, rfl, bel_un29 hb2⟩) ?_ rfl rfl (by kernel_rfl) rfl
      rintro v v1 ⟨rfl, hb1⟩
      have hS1 : Kp wr v1 := hb1
      have hB1 : Below w.heap.size w v1 := hB.trans (hb1.mono hB.size)
      refine ⟨hS1, ?_⟩
      refine h_op 6 hn hS1 (fun W _ hk => x_bn (lk_at hk (i := 52) rfl (fun _ => rfl) rfl) (lk_at hk (i := 54) rfl (fun _ => rfl) rfl) (burl_eqlC _ (.inr rfl) _ _ _ _ hLl W)) ?_
      refine h_op 7 hn hS1 (fun W _ hk => x_an (fun _ => rfl) (lk_at hk (i := 51) rfl (fun _ => rfl) rfl) (fun _ => lk_at hk (i := 55) rfl (fun _ => rfl) rfl)) ?_
      refine h_mv 8 hn hS1 ?_
      refine h_mv 9 hn hS1 ?_
      refine h_mv 10 hn hS1 ?_
      refine h_mv 12 hn hS1 ?_
      refine fh_callx 11 (d := 60) (R := fun v w2 => ∃ A2 n2 c2, v = .slice A2 n2 c2 ∧ OwnX tCl 4 v1.heap.size w2 A2 n2 c2 ((atL l j).map Cl.cells) ∧ Below v1.heap.size v1 w2) hn rfl (fun hk => call2_is en_spinney_burl_At _ _ _ _ _ _ _ _ _ (.slice A n c) (.int .i64 j) (lk_at hk (i := 58) rfl (fun _ => rfl) rfl) (lk_at hk (i := 59) rfl (fun _ => rfl) rfl) rfl) ((at_any A n c l j v1 HN.out ((HR.out v1 hB1).more hB1.size) (by omega) (fun x hx => by have h := cl_in (hgm x hx); omega)).mono fun _ _ ⟨A2, n2, c2, he, hO, hb2⟩ => ⟨_, he, A2, n2, c2, rfl, hO, hb2⟩) ?_ rfl rfl (by kernel_rfl) rfl
      rintro v v2 ⟨A2, n2, c2, rfl, hO2, hb2⟩
      have hS2 : Kp wr v2 := Kp.trans hS1 hb2
      have hB2 : Below w.heap.size w v2 := hB1.trans (hb2.mono hB1.size)
      refine ⟨hS2, ?_⟩
      have hl2 : (atL l j).length = n2 := by
        have h := hO2.len
        rw [List.length_map] at h
        exact h
      refine fh_callx 13 (d := 62) (R := fun v w2 => v = .bool true ∧ Drn v2 w2) hn rfl (fun hk => call2_is en_spinney_spinneyref07_SameCells _ _ _ _ _ _ _ _ _ (.slice A2 n2 c2) (.slice A7 n7 c7) (lk_at hk (i := 60) rfl (fun _ => rfl) rfl) (lk_at hk (i := 61) rfl (fun _ => rfl) rfl) rfl) ((refSameC_any A2 A7 n2 c2 n7 c7 (atL l j) (atL l j) v2 hl2 hO2.rd (by omega) hl7 (hO.keep hS2).rd).mono fun _ _ ⟨he, hd⟩ => ⟨_, he, by rw [sameG_yes rfl], hd⟩) ?_ rfl rfl (by kernel_rfl) rfl
      rintro v v3 ⟨rfl, hd3⟩
      have hS3 : Kp wr v3 := Kp.trans hS2 (hd3.below _)
      have hB3 : Below w.heap.size w v3 := hB2.trans (hd3.below _)
      refine ⟨hS3, ?_⟩
      refine h_op 14 hn hS3 (fun W _ hk => x_an (fun _ => rfl) (lk_at hk (i := 57) rfl (fun _ => rfl) rfl) (fun _ => lk_at hk (i := 62) rfl (fun _ => rfl) rfl)) ?_
      refine h_as 15 hn hS3 ?_
      refine fh_end (by kernel_rfl) ?_
      clear hn
      subst ha
      dsimp only [fr, cnd, Act.put, cond_true]
      simp only [List.setIfInBounds_toArray, List.set_cons_zero, List.set_cons_succ]
      go_wp2_with fail
      go_ret
      exact ⟨rfl, hB3⟩
theorem burlOf_all (A : Option Addr) (n c : Nat) (l : List Cl) (j : Int) (w : World) (hn : l.length = n) (hr : RdX 4 w.heap.size w A (l.map Cl.cells)) (_ : n ≤ maxLen) (hf : ∀ x, x ∈ l → x.fits) (_ : -9223372036854775808 ≤ j ∧ j ≤ 9223372036854775807) :
    Calls Try.prog 8 #[.slice A n c, .int .i64 j] w fun e w' => e = .returned (.bool true) ∧ Below w.heap.size w w' := by
  by_cases hs : 60 < n
  · exact burlOf_many A n c j w hs
  cases hg : goodCls l with
  | false => exact burlOf_bad A n c l j w hn hr (by omega) hf hg
  | true => exact burlOf_good A n c l j w hn hr (by omega) hf hg
end Go.Proofs.Ytkfhkfddhijkcaa
