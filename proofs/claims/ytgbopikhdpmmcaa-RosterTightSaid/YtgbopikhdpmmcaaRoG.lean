/-
  WHAT IS PROVED: the law RosterTells returns true. Conditions: those typed in each theorem.
-/
import Derived.Test.YtgbopikhdpmmcaaRoE
import Derived.Test.YtgbopikhdpmmcaaRoF
import Derived.Test.YtgbopikhdpmmcaaWrSame
namespace Go.Proofs.Ytgbopikhdpmmcaa
open Go.RowKit

theorem en_spinney_spinneyref03_GoodId : ∀ args w, (callFunc 10 args).run Try.prog w = .ok (.enter 10 args) w := enters_of Try.func10 (by kernel_rfl) rfl
theorem en_spinney_spinneyref03_Same : ∀ args w, (callFunc 14 args).run Try.prog w = .ok (.enter 14 args) w := enters_of Try.func14 (by kernel_rfl) rfl

theorem good_nums {x : Wr} (h : x.good = true) : nodeB x.dev = true ∧ -1000 ≤ x.seq ∧ x.seq ≤ 1000 := by
  unfold Wr.good wrGoodB at h
  rw [Bool.and_eq_true] at h
  have h1 := of_decide_eq_true (show decide _ = true from h.1)
  refine ⟨?_, by omega, by omega⟩
  unfold nodeB
  rw [decide_eq_true (by omega), decide_eq_true (by omega)]
  rfl
theorem good_len {x : Wr} (h : x.good = true) : x.ky.size ≤ 1000000 ∧ x.sa.size ≤ 1000000 ∧ x.sb.size ≤ 1000000 := by
  unfold Wr.good wrGoodB opB at h
  rw [Bool.and_eq_true, Bool.and_eq_true, Bool.and_eq_true, Bool.and_eq_true] at h
  obtain ⟨_, ⟨⟨h1, h2⟩, h3⟩, _⟩ := h
  unfold keyB at h1
  rw [Bool.and_eq_true] at h1
  have k1 := of_decide_eq_true h1.2
  have k0 : x.ky.data.toList.length = x.ky.size := Array.length_toList
  unfold goodB at h2 h3
  have k2 := of_decide_eq_true h2
  have k3 := of_decide_eq_true h3
  omega
theorem id_nat {d q : Int} (h : idB d q = true) : ∃ k : Nat, k < 12 ∧ d = (k : Int) ∧ -1000 ≤ q ∧ q ≤ 1000 := by
  have h1 := of_decide_eq_true (show decide _ = true from h)
  exact ⟨d.toNat, by omega, by omega, by omega, by omega⟩
theorem in_eq (i j : Nat) (m : Int) (W : World) : ((do eqGuard .eql 3 (.tmp i) (.tmp j) (.int .i64 m) (.int .i64 m); binOp .eql 3 (.int .i64 m) (.int .i64 m)) : Sem Value).run Try.prog W = .ok (.bool true) W := by go_simp
set_option maxRecDepth 100000 in
set_option maxHeartbeats 4000000 in
theorem lawTells_all (l : List Int) (A : Option Addr) (n c : Nat) (ws : List Wr) (dv sq : Int) (w : World) (hl : l.length = 12) (hn0 : ws.length = n) (hr : RdW w.heap.size w A ws) (hm : n ≤ maxLen) (hf : ∀ x, x ∈ ws → x.fits) :
    Calls Try.prog 3 #[.agg (liA l), .slice A n c, .agg #[.int .i64 dv, .int .i64 sq]] w fun e w' => e = .returned (.bool true) ∧ Below w.heap.size w w' := by
  have HN := Lib.hid hn0
  have HF := Lib.hid hf
  have hrW := Lib.hid (fun W hb => (hr.keep (C := w.heap.size) (W' := W) hb (Nat.le_refl _)))
  clear hf
  have hX0 := blk_new w (liA l) 23
  replace hX0 := hX0.alloc (.cells #[.int .i64 dv, .int .i64 sq] 26)
  have hz1 : (w.alloc (.cells (liA l) 23)).heap.size = w.heap.size + 1 := by simp
  have hX1 := blk_new (w.alloc (.cells (liA l) 23)) #[.int .i64 dv, .int .i64 sq] 26
  rw [hz1] at hX1
  have hB := ba (b0 w (.cells (liA l) 23)) (.cells #[.int .i64 dv, .int .i64 sq] 26)
  have hzz : ((w.alloc (.cells (liA l) 23)).alloc (.cells #[.int .i64 dv, .int .i64 sq] 26)).heap.size = w.heap.size + 2 := by simp
  go_enter Try.func3, Try.ntmps3
  go_upto_region 1 with fail
  generalize ((w.alloc (.cells (liA l) 23)).alloc (.cells #[.int .i64 dv, .int .i64 sq] 26)) = W0 at hX0 hX1 hB hzz ⊢
  (try simp only [hz1])
  clear hz1
  generalize hb : w.heap.size = b at hX0 hX1 hB hzz ⊢
  have hR0 : RdW W0.heap.size W0 A ws := (hrW.out W0 (by rw [hb]; exact hB)).more (by omega)
  have HR := Lib.hid (fun W (h : Kp W0 W) => hR0.keep (W' := W) h (Nat.le_refl _))
  have l1 : ∀ W, Kp W0 W → (Instr.loadAt 23 (.pointer (some ⟨b, 0, none⟩))).run Try.prog W = .ok (.agg (liA l)) W := fun W h => ld_liL (h.blk hX0) hl
  have l2 : ∀ W, Kp W0 W → (Instr.loadAt 26 (.pointer (some ⟨b + 1, 0, none⟩))).run Try.prog W = .ok (.agg #[.int .i64 dv, .int .i64 sq]) W := fun W h => ild ((h.blk hX1).cell 0) ((h.blk hX1).cell 1)
  have c0 : ∀ W, Kp W0 W → _ := kp_c fun W _ => awake13_any W
  have c1 : ∀ W, Kp W0 W → _ := kp_c fun W _ => refGL_any l W hl
  have c2 : ∀ W, Kp W0 W → _ := kp_c fun W h => refGoodAll_any A n c ws W HN.out (HR.out W h) h.size hm HF.out
  have c3 : ∀ W, Kp W0 W → _ := kp_c fun W _ => refGoodId_any dv sq W
  refine wp_region_lit ?_
  refine fs_start (Kp W0) (Kp.refl _) ?_
  generalize ha : Act.mk _ _ = a0
  have hn : a0.tmps.size = 76 := by rw [← ha]; kernel_rfl
  have h1 : (fr a0 []).eval (.tmp 1) = .slice A n c := by rw [← ha]; kernel_rfl
  refine fs_know hn rfl h1 ?_
  clear h1
  have h3 : (fr a0 [(1, true, .slice A n c)]).eval (.tmp 3) = .pointer (some ⟨b, 0, none⟩) := by rw [← ha]; kernel_rfl
  refine fs_know hn rfl h3 ?_
  clear h3
  have h5 : (fr a0 [(3, true, .pointer (some ⟨b, 0, none⟩)), (1, true, .slice A n c)]).eval (.tmp 5) = .pointer (some ⟨b + 1, 0, none⟩) := by rw [← ha]; kernel_rfl
  refine fs_know hn rfl h5 ?_
  clear h5
  refine s_call hn ?_ (he := en_spinney_spinneylaw13_awake)
  refine s_nt hn ?_
  refine s_mv hn ?_
  refine s_ld hn ?_
  refine s_callt hn ?_ (he := en_spinney_spinneyref07_GoodLasts)
  refine s_nt hn ?_
  refine s_or hn ?_
  refine s_mv hn ?_
  refine s_mv hn ?_
  refine s_callt hn ?_ (he := en_spinney_spinneyref03_GoodAll)
  refine s_nt hn ?_
  refine s_or hn ?_
  refine s_mv hn ?_
  refine s_mv hn ?_
  refine s_ln hn ?_
  refine s_gtr hn ?_
  refine s_or hn ?_
  refine s_mv hn ?_
  refine s_ld hn ?_
  refine s_callt hn ?_ (he := en_spinney_spinneyref03_GoodId)
  refine s_nt hn ?_
  refine s_or hn ?_
  refine fs_end (fun w2 hS => ?_)
  clear hn
  subst ha
  dsimp only [fr, cnd, Act.put, cond_true]
  simp only [List.setIfInBounds_toArray, List.set_cons_zero, List.set_cons_succ]
  cases hg : (((((!true || !glaB l) || !goodAll ws) || decide ((100 : Int) < (n : Int)))) || !idB dv sq) with
  | true =>
    clear hg
    go_upto_region 2 with fail
    refine wp_region_lit ?_
    refine fs_start (Kp W0) (hS) ?_
    generalize ha : Act.mk _ _ = a0
    have hn : a0.tmps.size = 76 := by rw [← ha]; kernel_rfl
    refine s_call hn ?_ (he := en_spinney_spinneylaw13_awake)
    refine s_as hn ?_
    refine fs_end (fun w3 hS3 => ?_)
    clear hn
    subst ha
    dsimp only [fr, cnd, Act.put, cond_true]
    simp only [List.setIfInBounds_toArray, List.set_cons_zero, List.set_cons_succ]
    have hB3 : Below b w w3 := hB.trans (hS3.below.mono (by omega))
    clear l1 l2 c0 c1 c2 c3 hX0 hX1 hS hS3 hB
    go_wp2_with fail
    go_ret
    exact ⟨rfl, by first | exact hB3 | (rw [hb]; exact hB3)⟩
  | false =>
  obtain ⟨hgl, hga, hn2, hgi⟩ : glaB l = true ∧ goodAll ws = true ∧ n ≤ 100 ∧ idB dv sq = true := by
    simp only [Bool.or_eq_false_iff, Bool.not_eq_false', decide_eq_false_iff_not] at hg
    exact ⟨hg.1.1.1.2, hg.1.1.2, by have := hg.1.2; omega, hg.2⟩
  clear hg c0 c1 c2 c3
  have hsm := glaB_sml hl hgl
  obtain ⟨dn, hdn, rfl, hq1, hq2⟩ := id_nat hgi
  have hgood : ∀ x, x ∈ ws → x.good = true := fun x hx => List.all_eq_true.1 hga x hx
  clear hgl hga hgi
  have l0 := l1 w2 hS
  go_upto_region 3 with fail
  refine wp_region_lit ?_
  refine fl_start ?_
  generalize ha : Act.mk _ _ = a0
  have hn : a0.tmps.size = 76 := by rw [← ha]; kernel_rfl
  have h3 : (fr a0 []).eval (.tmp 3) = .pointer (some ⟨b, 0, none⟩) := by rw [← ha]; kernel_rfl
  refine fl_know hn rfl h3 ?_
  clear h3
  refine g_ld hn ?_
  refine al_row hn (alL w2) ?_
  intro g w3 hg hX3 hB3
  refine g_str hX3 ?_ (hs := by rw [li_size, hl]; rfl) (hi := by rw [li_size, hl]; kernel_rfl) (h1 := li_one _)
  intro w4 ho hX4
  refine fl_end ?_
  clear hn
  subst ha
  dsimp only [fr, cnd, Act.put, cond_true]
  simp only [List.setIfInBounds_toArray, List.set_cons_zero, List.set_cons_succ]
  have hY : Kp W0 w4 := Below.trans (hS.trans hB3) (ho.below (by have := hS.below.size; omega))
  clear hX3 hB3 ho l0 hS
  have l0 := l1 w4 hY
  have cL := left_any l A n c ws w4 hsm HN.out (HR.out w4 hY) hY.below.size (by omega) (fun x hx => good_len (hgood x hx))
  go_upto_region 4 with fail
  refine wp_region_lit ?_
  refine fl_start ?_
  generalize ha : Act.mk _ _ = a0
  have hn : a0.tmps.size = 76 := by rw [← ha]; kernel_rfl
  have h1 : (fr a0 []).eval (.tmp 1) = .slice A n c := by rw [← ha]; kernel_rfl
  refine fl_know hn rfl h1 ?_
  clear h1
  have h3 : (fr a0 [(1, true, .slice A n c)]).eval (.tmp 3) = .pointer (some ⟨b, 0, none⟩) := by rw [← ha]; kernel_rfl
  refine fl_know hn rfl h3 ?_
  clear h3
  refine g_ld hn ?_
  refine g_mv hn ?_
  refine g_c2x en_spinney_roster_Left hn (R := fun v w5 => ∃ A8 n8 c8, v = .slice A8 n8 c8 ∧ OwnX tWr 10 w4.heap.size w5 A8 n8 c8 ((leftL l ws).map Wr.cells) ∧ Below w4.heap.size w4 w5) (cL.mono fun e _ h => by obtain ⟨A8, n8, c8, rfl, h2, h3⟩ := h; exact ⟨_, rfl, A8, n8, c8, rfl, h2, h3⟩) ?_
  rintro v w5 ⟨A8, n8, c8, rfl, hO8, hB5⟩
  refine g_as hn ?_
  refine fl_end ?_
  clear hn
  subst ha
  dsimp only [fr, cnd, Act.put, cond_true]
  simp only [List.setIfInBounds_toArray, List.set_cons_zero, List.set_cons_succ]
  clear l0 cL
  have hY5 : Kp W0 w5 := hY.trans hB5
  have hB5' : Below b w w5 := hB.trans (hY5.below.mono (by omega))
  have hX05 := hY5.blk hX0
  have hX15 := hY5.blk hX1
  have hX45 := hX4.keep hB5
  have hR5 : RdW W0.heap.size w5 A ws := HR.out w5 hY5
  have hz5 : W0.heap.size ≤ w5.heap.size := hY5.below.size
  have hR8 := hO8.rdw
  have hn8 : (leftL l ws).length = n8 := by have := hO8.len; rwa [List.length_map] at this
  have hn8l : n8 ≤ 100 := by have := leftL_len l ws; have := HN.out; omega
  clear l1 l2 hX0 hX1 hB hY hB5 hX4 hO8 HR hR0
  have m12 := ofL_len hl ws
  have hlast : lastI l (dn : Int) = gI l dn := by
    unfold lastI nodeB
    rw [decide_eq_true (by omega), decide_eq_true (by omega), Int.toNat_natCast]
    rfl
  have hgI := hsm.2 dn
  have l1 : ∀ W, Kp w5 W → (Instr.loadAt 23 (.pointer (some ⟨b, 0, none⟩))).run Try.prog W = .ok (.agg (liA l)) W := fun W h => ld_liL (h.blk hX05) hl
  have l2 : ∀ W, Kp w5 W → (Instr.loadAt 26 (.pointer (some ⟨b + 1, 0, none⟩))).run Try.prog W = .ok (.agg #[.int .i64 (dn : Int), .int .i64 sq]) W := fun W h => ild ((h.blk hX15).cell 0) ((h.blk hX15).cell 1)
  have l3 : ∀ W, Kp w5 W → (Instr.loadAt 23 (.pointer (some ⟨g, 0, none⟩))).run Try.prog W = .ok (.agg (liA l)) W := fun W h => ld_liL (h.blk hX45) hl
  have f0 : ∀ W, Kp w5 W → (Instr.fieldAt 26 (.pointer (some ⟨b + 1, 0, none⟩)) 0).run Try.prog W = .ok (.pointer (some ⟨b + 1, 0, none⟩)) W := fun W _ => ifd0 W ⟨b + 1, 0, none⟩
  have l4 : ∀ W, Kp w5 W → (Instr.loadAt 3 (.pointer (some ⟨b + 1, 0, none⟩))).run Try.prog W = .ok (.int .i64 (dn : Int)) W := fun W h => load_int ((h.blk hX15).cell 0)
  have x1 : ∀ W, Kp w5 W → (Instr.indexAt 23 (.pointer (some ⟨b, 0, none⟩)) (.int .i64 (dn : Int))).run Try.prog W = .ok (.pointer (some ⟨b, dn, none⟩)) W := fun W _ => ix_liL W b dn hdn
  have l5 : ∀ W, Kp w5 W → (Instr.loadAt 3 (.pointer (some ⟨b, dn, none⟩))).run Try.prog W = .ok (.int .i64 (gI l dn)) W := fun W h => load_int (li_cell (h.blk hX05) (by omega))
  have e1 : ∀ W, ((do eqGuard .eql 23 (.tmp 38) (.tmp 41) (.agg (liA (ofL l ws))) (.agg (liA (ofL l ws))); binOp .eql 23 (.agg (liA (ofL l ws))) (.agg (liA (ofL l ws)))) : Sem Value).run Try.prog W = .ok (.bool true) W := fun W => (li_eqC 38 41 m12 m12 W).trans (by rw [decide_eq_true rfl])
  have e2 : ∀ W, ((do eqGuard .eql 23 (.tmp 72) (.tmp 73) (.agg (liA l)) (.agg (liA l)); binOp .eql 23 (.agg (liA l)) (.agg (liA l))) : Sem Value).run Try.prog W = .ok (.bool true) W := fun W => (li_eqC 72 73 hl hl W).trans (by rw [decide_eq_true rfl])
  have a1 : ∀ W, Kp w5 W → ((do eqGuard .add 3 (.tmp 67) (.const (.int .i64 1)) (.int .i64 (gI l dn)) (.int .i64 1); binOp .add 3 (.int .i64 (gI l dn)) (.int .i64 1)) : Sem Value).run Try.prog W = .ok (.int .i64 (gI l dn + 1)) W := fun W _ => by
    clear l1 l2 l3 f0 l4 x1 l5 e1 e2 hlast
    generalize gI l dn = x at hgI ⊢
    have wr : IntKind.i64.wrap (x + 1) = x + 1 := by unfold IntKind.wrap; simp [IntKind.bits, IntKind.signed]; omega
    go_simp
  go_upto_region 5 with fail
  refine fh_start (S := Kp w5) (by kernel_rfl) (Kp.drew _) (fun hS => ?_)
  generalize ha : Act.mk _ _ = a0
  have hn : a0.tmps.size = 76 := by rw [← ha]; kernel_rfl
  have h1 : (fr a0 []).eval (.tmp 1) = .slice A n c := by rw [← ha]; kernel_rfl
  refine fh_know hn rfl h1 ?_
  clear h1
  have h3 : (fr a0 [(1, true, .slice A n c)]).eval (.tmp 3) = .pointer (some ⟨b, 0, none⟩) := by rw [← ha]; kernel_rfl
  refine fh_know hn rfl h3 ?_
  clear h3
  have h5 : (fr a0 [(3, true, .pointer (some ⟨b, 0, none⟩)), (1, true, .slice A n c)]).eval (.tmp 5) = .pointer (some ⟨b + 1, 0, none⟩) := by rw [← ha]; kernel_rfl
  refine fh_know hn rfl h5 ?_
  clear h5
  have h7 : (fr a0 [(5, true, .pointer (some ⟨b + 1, 0, none⟩)), (3, true, .pointer (some ⟨b, 0, none⟩)), (1, true, .slice A n c)]).eval (.tmp 7) = .pointer (some ⟨g, 0, none⟩) := by rw [← ha]; kernel_rfl
  refine fh_know hn rfl h7 ?_
  clear h7
  have h8 : (fr a0 [(7, true, .pointer (some ⟨g, 0, none⟩)), (5, true, .pointer (some ⟨b + 1, 0, none⟩)), (3, true, .pointer (some ⟨b, 0, none⟩)), (1, true, .slice A n c)]).eval (.tmp 8) = .slice A8 n8 c8 := by rw [← ha]; kernel_rfl
  refine fh_know hn rfl h8 ?_
  clear h8
  refine h_ld 0 hn hS ?_
  refine h_mv 1 hn hS ?_
  refine h_ld 3 hn hS ?_
  refine h_mv 4 hn hS ?_
  refine h_c2 2 en_spinney_roster_Of hn (R := fun v w2 => v = .agg (liA (ofL l ws)) ∧ Kp w5 w2) ((of_any l A n c ws _ hl HN.out (hR5.keep hS hz5) (Nat.le_trans hz5 hS.below.size) (by omega)).mono fun _ _ ⟨he, hb2⟩ => ⟨_, he, rfl, hS.trans hb2⟩) ?_
  rintro v wn ⟨rfl, hSn⟩
  refine ⟨hSn, ?_⟩
  replace hS := hSn
  clear hSn
  refine h_c2 5 en_spinney_spinneyref13_Of hn (R := fun v w2 => v = .agg (liA (ofL l ws)) ∧ Kp w5 w2) ((refOf_any l A n c ws _ hl HN.out (hR5.keep hS hz5) (Nat.le_trans hz5 hS.below.size) (by omega) (fun x hx => (good_nums (hgood x hx)).1)).mono fun _ _ ⟨he, hb2⟩ => ⟨_, he, rfl, hS.trans hb2⟩) ?_
  rintro v wn ⟨rfl, hSn⟩
  refine ⟨hSn, ?_⟩
  replace hS := hSn
  clear hSn
  refine h_op 6 hn hS (fun W _ hk => x_bn (lk_at hk (i := 38) rfl (fun _ => rfl) rfl) (lk_at hk (i := 41) rfl (fun _ => rfl) rfl) (e1 W)) ?_
  refine h_mv 7 hn hS ?_
  refine h_mv 8 hn hS ?_
  refine h_ld 9 hn hS ?_
  refine h_mv 10 hn hS ?_
  refine h_c2 11 en_spinney_spinneyref13_Left hn (R := fun v w2 => ∃ A9 n9 c9, v = .slice A9 n9 c9 ∧ (leftL l ws).length = n9 ∧ RdW w2.heap.size w2 A9 (leftL l ws) ∧ Kp w5 w2) ((refLeft_any l A n c ws _ hsm HN.out (hR5.keep hS hz5) (Nat.le_trans hz5 hS.below.size) (by omega) (fun x hx => good_nums (hgood x hx))).mono fun e _ h => by
    obtain ⟨A9, n9, c9, rfl, h2, h3⟩ := h
    exact ⟨_, rfl, A9, n9, c9, rfl, by have := h2.len; rwa [List.length_map] at this, h2.rdw, hS.trans h3⟩) ?_
  rintro v wn ⟨A9, n9, c9, rfl, hn9, hR9, hSn⟩
  refine ⟨hSn, ?_⟩
  replace hS := hSn
  clear hSn
  refine h_c2 12 en_spinney_spinneyref03_Same hn (R := fun v w2 => v = .bool true ∧ Kp w5 w2) ((((refWrSame_any A8 A9 n8 c8 n9 c9 (leftL l ws) (leftL l ws) _ hn8 (hR8.keep hS (Nat.le_refl _)) hS.below.size (by omega) hn9 hR9 (Nat.le_refl _)).mono fun _ _ ⟨he, hd⟩ => (⟨by rw [he, sameW_yes rfl], hd.below _⟩ : _ = Ending.returned (.bool true) ∧ _))).mono fun _ _ ⟨he, hb2⟩ => ⟨_, he, rfl, hS.trans hb2⟩) ?_
  rintro v wn ⟨rfl, hSn⟩
  refine ⟨hSn, ?_⟩
  replace hS := hSn
  clear hSn
  refine h_op 13 hn hS (fun W _ hk => x_an (fun _ => rfl) (lk_at hk (i := 43) rfl (fun _ => rfl) rfl) (fun _ => lk_at hk (i := 48) rfl (fun _ => rfl) rfl)) ?_
  refine h_mv 14 hn hS ?_
  refine h_ld 15 hn hS ?_
  refine h_ld 16 hn hS ?_
  refine h_ld 18 hn hS ?_
  refine h_ld 19 hn hS ?_
  refine h_c2 17 en_spinney_roster_Ask hn (R := fun v w2 => v = .int .i64 (askI l dn sq) ∧ Kp w5 w2) ((ask_any l (dn : Int) sq _ hsm).mono fun _ _ ⟨he, hb2⟩ => ⟨_, he, rfl, hS.trans hb2⟩) ?_
  rintro v wn ⟨rfl, hSn⟩
  refine ⟨hSn, ?_⟩
  replace hS := hSn
  clear hSn
  refine h_c2 20 en_spinney_spinneyref13_Ask hn (R := fun v w2 => v = .int .i64 (askI l dn sq) ∧ Kp w5 w2) ((refAsk_any l dn sq _ hsm hdn ⟨hq1, hq2⟩).mono fun _ _ ⟨he, hb2⟩ => ⟨_, he, rfl, hS.trans hb2⟩) ?_
  rintro v wn ⟨rfl, hSn⟩
  refine ⟨hSn, ?_⟩
  replace hS := hSn
  clear hSn
  refine h_op 21 hn hS (fun W _ hk => x_bn (lk_at hk (i := 53) rfl (fun _ => rfl) rfl) (lk_at hk (i := 56) rfl (fun _ => rfl) rfl) (in_eq _ _ _ W)) ?_
  refine h_op 22 hn hS (fun W _ hk => x_an (fun _ => rfl) (lk_at hk (i := 50) rfl (fun _ => rfl) rfl) (fun _ => lk_at hk (i := 57) rfl (fun _ => rfl) rfl)) ?_
  refine h_mv 23 hn hS ?_
  refine h_ld 24 hn hS ?_
  refine h_fd 25 hn hS ?_
  refine h_ld 26 hn hS ?_
  refine h_fd 28 hn hS ?_
  refine h_ld 29 hn hS ?_
  refine h_ix 30 hn hS ?_
  refine h_ld 31 hn hS ?_
  refine h_bc 32 hn hS ?_
  refine h_c2 27 en_spinney_roster_Next hn (R := fun v w2 => v = .int .i64 (gI l dn + 1) ∧ Kp w5 w2) ((((next_any l (dn : Int) _ hsm).mono fun _ _ ⟨he, hb2⟩ => (⟨by rw [he, hlast], hb2⟩ : _ = Ending.returned (.int .i64 (gI l dn + 1)) ∧ _))).mono fun _ _ ⟨he, hb2⟩ => ⟨_, he, rfl, hS.trans hb2⟩) ?_
  rintro v wn ⟨rfl, hSn⟩
  refine ⟨hSn, ?_⟩
  replace hS := hSn
  clear hSn
  refine h_op 33 hn hS (fun W _ hk => x_bn (lk_at hk (i := 63) rfl (fun _ => rfl) rfl) (lk_at hk (i := 68) rfl (fun _ => rfl) rfl) (in_eq _ _ _ W)) ?_
  refine h_op 34 hn hS (fun W _ hk => x_an (fun _ => rfl) (lk_at hk (i := 59) rfl (fun _ => rfl) rfl) (fun _ => lk_at hk (i := 69) rfl (fun _ => rfl) rfl)) ?_
  refine h_mv 35 hn hS ?_
  refine h_ld 36 hn hS ?_
  refine h_ld 37 hn hS ?_
  refine h_op 38 hn hS (fun W _ hk => x_bn (lk_at hk (i := 72) rfl (fun _ => rfl) rfl) (lk_at hk (i := 73) rfl (fun _ => rfl) rfl) (e2 W)) ?_
  refine h_op 39 hn hS (fun W _ hk => x_an (fun _ => rfl) (lk_at hk (i := 71) rfl (fun _ => rfl) rfl) (fun _ => lk_at hk (i := 74) rfl (fun _ => rfl) rfl)) ?_
  refine h_as 40 hn hS ?_
  refine fh_end (by kernel_rfl) ?_
  clear hn
  subst ha
  dsimp only [fr, cnd, Act.put, cond_true]
  simp only [List.setIfInBounds_toArray, List.set_cons_zero, List.set_cons_succ]
  have hB6 := hB5'.trans (hS.below.mono (by have := hB5'.size; omega))
  clear l1 l2 l3 f0 l4 x1 l5 e1 e2 a1 hX05 hX15 hX45 hR5 hR8 hR9 hS hB5'
  go_wp2_with fail
  go_ret
  exact ⟨rfl, by first | exact hB6 | (rw [hb]; exact hB6)⟩
theorem rosterTells_all (x0 x1 x2 x3 x4 x5 x6 x7 x8 x9 x10 x11 : Int) (A : Option Addr) (n c : Nat) (ws : List Wr) (dv sq : Int) (w : World) (hn : ws.length = n) (hr : RdW w.heap.size w A ws) (hm : n ≤ maxLen) (hf : ∀ x, x ∈ ws → x.fits) (_ : -9223372036854775808 ≤ sq ∧ sq ≤ 9223372036854775807) : Calls Try.prog 3 #[.agg (laI x0 x1 x2 x3 x4 x5 x6 x7 x8 x9 x10 x11), .slice A n c, .agg #[.int .i64 dv, .int .i64 sq]] w fun e w' => e = .returned (.bool true) ∧ Below w.heap.size w w' := lawTells_all (laL x0 x1 x2 x3 x4 x5 x6 x7 x8 x9 x10 x11) A n c ws dv sq w rfl hn hr hm hf
end Go.Proofs.Ytgbopikhdpmmcaa
