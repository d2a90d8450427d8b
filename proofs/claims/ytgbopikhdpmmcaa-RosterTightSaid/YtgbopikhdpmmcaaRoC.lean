/-
  WHAT IS PROVED: the document's GoodLasts; roster's fixed fact; the law RosterPairs returns true. Conditions: those typed in each theorem.
-/
import Derived.Test.YtgbopikhdpmmcaaRoB
namespace Go.Proofs.Ytgbopikhdpmmcaa
open Go.RowKit

/-- Are they lasts? -/
def glaB (x : List Int) : Bool := ((List.range 12).all fun j => decide (0 ≤ gI x j ∧ gI x j ≤ 40)) && (gI x 0 == 0)
theorem glaB_iff {x : List Int} : ((List.range 12).all fun j => decide (0 ≤ gI x j ∧ gI x j ≤ 40)) = true ↔ ∀ j, j < 12 → 0 ≤ gI x j ∧ gI x j ≤ 40 := by simp
theorem glaB_sml {x : List Int} (hx : x.length = 12) (h : glaB x = true) : Sml x := by
  refine ⟨hx, fun j => ?_⟩
  unfold glaB at h
  rw [Bool.and_eq_true, glaB_iff] at h
  by_cases hj : j < 12
  · have := h.1 j hj
    omega
  · unfold gI
    rw [List.getElem?_eq_none (by omega)]
    exact ⟨Int.le_refl _, show (0 : Int) ≤ 1000 by decide⟩
set_option maxRecDepth 100000 in
set_option maxHeartbeats 4000000 in
theorem refGL_any (x : List Int) (w : World) (hx : x.length = 12) : Calls Try.prog 8 #[.agg (liA x)] w fun e w' => e = .returned (.bool (glaB x)) ∧ Below w.heap.size w w' := by
  have hX0 := blk_new w (liA x) 22
  have hB := b0 w (.cells (liA x) 22)
  have hzz : (w.alloc (.cells (liA x) 22)).heap.size = w.heap.size + 1 := by simp
  go_enter Try.func8, Try.ntmps8
  go_upto_region 1 with fail
  generalize (w.alloc (.cells (liA x) 22)) = W0 at hX0 hB hzz ⊢
  generalize hb : w.heap.size = b at hX0 hB hzz ⊢
  go_wp2_with fail
  go_loopw [2, 4] (fun _ i wr => ∃ j : Nat, j ≤ 12 ∧ i = .int .i64 j ∧ wr = W0 ∧ Hid (∀ k, k < j → 0 ≤ gI x k ∧ gI x k ≤ 40)) (fun _ i _ => 12 - (intOf i).toNat)
  case atStart => exact ⟨0, by omega, by first | rfl | trivial, by first | rfl | trivial, fun k hk => absurd hk (Nat.not_lt_zero k)⟩
  case round =>
    obtain ⟨j, hj, rfl, rfl, hA⟩ := hrel
    by_cases hlt : j < 12
    · have i1 : (j : Int) < 12 := by omega
      have q := li_cell hX0 (j := j) (by omega)
      have ix := fun W => ix_liA W b j hlt
      have HF : Hid ((gI x j < 0 ∨ 40 < gI x j) → false = glaB x) := fun hc => by
        refine (Bool.eq_false_iff.2 fun h => ?_).symm
        unfold glaB at h
        rw [Bool.and_eq_true, glaB_iff] at h
        have := h.1 j hlt
        omega
      by_cases h0 : gI x j < 0
      · have R : Hid (false = glaB x) := HF.out (.inl h0)
        clear HF hA
        go_wp2_with fail
        go_ret
        exact ⟨ret_bool R.out, by first | exact hB | (rw [hb]; exact hB)⟩
      · by_cases h1 : 40 < gI x j
        · have R : Hid (false = glaB x) := HF.out (.inr h1)
          clear HF hA
          go_wp2_with fail
          go_ret
          exact ⟨ret_bool R.out, by first | exact hB | (rw [hb]; exact hB)⟩
        · have HA2 : Hid (∀ k, k < j + 1 → 0 ≤ gI x k ∧ gI x k ≤ 40) := fun k hk => by
            by_cases e : k = j
            · subst e; omega
            · exact hA.out k (by omega)
          clear HF hA
          go_wp2_with fail
          go_roundw
          case rel => exact ⟨j + 1, by omega, by go_num, by first | rfl | trivial, HA2⟩
          case measure => simp [intOf]; omega
    · have e : j = 12 := by omega
      subst e
      have q := li_cell hX0 (j := 0) (by omega)
      have R : Hid ((gI x 0 == 0) = glaB x) := by
        show _ = glaB x
        unfold glaB
        rw [glaB_iff.2 (fun k hk => hA.out k hk), Bool.true_and]
      clear hA
      go_wp2_with fail
      go_ret
      exact ⟨ret_bool R.out, by first | exact hB | (rw [hb]; exact hB)⟩
/-! The fixed fact. -/
theorem en_spinney_spinneylaw13_awake : ∀ args w, (callFunc 7 args).run Try.prog w = .ok (.enter 7 args) w := enters_of Try.func7 (by kernel_rfl) rfl
theorem en_spinney_spinneyref07_GoodLasts : ∀ args w, (callFunc 8 args).run Try.prog w = .ok (.enter 8 args) w := enters_of Try.func8 (by kernel_rfl) rfl

def exL : List Int := [0, 4, 0, 0, 0, 0, 0, 0, 0, 0, 0, 0]
theorem exL_sml : Sml exL := glaB_sml rfl (by kernel_rfl)
theorem alL (w : World) : (Instr.alloc 23 true (.tuple #[])).run Try.prog w = .ok (.pointer (some ⟨w.heap.size, 0, none⟩)) (w.alloc (.cells (laI 0 0 0 0 0 0 0 0 0 0 0 0) 23)) := by kernel_rfl
theorem bdId (a c : Int) (w : World) : (Instr.build 26 #[(0, .int .i64 a), (1, .int .i64 c)]).run Try.prog w = .ok (.agg #[.int .i64 a, .int .i64 c]) w := by kernel_rfl
theorem bdL (w : World) : (Instr.build 23 #[(1, .int .i64 4)]).run Try.prog w = .ok (.agg (laI 0 4 0 0 0 0 0 0 0 0 0 0)) w := by kernel_rfl
theorem next_any (l : List Int) (n : Int) (w : World) (hl : Sml l) : Calls Try.prog 18 #[.agg (liA l), .int .i64 n] w fun e w' => e = .returned (.int .i64 (lastI l n + 1)) ∧ Below w.heap.size w w' := by
  have hX0 := blk_new w (liA l) 23
  have hB := b0 w (.cells (liA l) 23)
  have hzz : (w.alloc (.cells (liA l) 23)).heap.size = w.heap.size + 1 := by simp
  go_enter Try.func18, Try.ntmps18
  go_upto_region 1 with fail
  generalize (w.alloc (.cells (liA l) 23)) = W0 at hX0 hB hzz ⊢
  generalize hb : w.heap.size = b at hX0 hB hzz ⊢
  have hs := lastI_sml hl n
  have wr : IntKind.i64.wrap (lastI l n + 1) = lastI l n + 1 := by unfold IntKind.wrap; simp [IntKind.bits, IntKind.signed]; omega
  have l1 : ∀ W, Kp W0 W → (Instr.loadAt 23 (.pointer (some ⟨b, 0, none⟩))).run Try.prog W = .ok (.agg (liA l)) W := fun W h => ld_liL (h.blk hX0) hl.1
  have HC := kp_c (w0 := W0) fun W _ => last_any l n W hl.1
  have HA : ∀ W, Kp W0 W → ((do eqGuard .add 3 (.tmp 7) (.const (.int .i64 1)) (.int .i64 (lastI l n)) (.int .i64 1); binOp .add 3 (.int .i64 (lastI l n)) (.int .i64 1)) : Sem Value).run Try.prog W = .ok (.int .i64 (lastI l n + 1)) W := fun W _ => by
    clear HC l1 hX0 hs
    generalize lastI l n = x at wr ⊢
    go_simp
  refine wp_region_lit ?_
  refine fs_start (Kp W0) (Kp.refl _) ?_
  generalize ha : Act.mk _ _ = a0
  have hn : a0.tmps.size = 9 := by rw [← ha]; kernel_rfl
  have h1 : (fr a0 []).eval (.tmp 1) = .int .i64 n := by rw [← ha]; kernel_rfl
  refine fs_know hn rfl h1 ?_
  clear h1
  have h2 : (fr a0 [(1, true, .int .i64 n)]).eval (.tmp 2) = .pointer (some ⟨b, 0, none⟩) := by rw [← ha]; kernel_rfl
  refine fs_know hn rfl h2 ?_
  clear h2
  refine s_ld hn ?_
  refine s_mv hn ?_
  refine s_calltt hn ?_ (he := en_spinney_roster_last)
  refine s_bc hn ?_
  refine s_as hn ?_
  refine fs_end (fun w2 hS => ?_)
  clear hn
  subst ha
  dsimp only [fr, cnd, Act.put, cond_true]
  simp only [List.setIfInBounds_toArray, List.set_cons_zero, List.set_cons_succ]
  have hB2 : Below b w w2 := hB.trans (hS.below.mono (by omega))
  clear HC HA l1 hX0 hS hB wr hs
  go_wp2_with fail
  go_ret
  exact ⟨rfl, by first | exact hB2 | (rw [hb]; exact hB2)⟩
set_option maxRecDepth 100000 in
set_option maxHeartbeats 4000000 in
theorem awake13_any (w : World) : Calls Try.prog 7 #[] w fun e w' => e = .returned (.bool true) ∧ Below w.heap.size w w' := by
  go_enter Try.func7, Try.ntmps7
  go_upto_region 1 with fail
  refine wp_region_lit ?_
  refine fl_start ?_
  generalize ha : Act.mk _ _ = a0
  have hn : a0.tmps.size = 24 := by rw [← ha]; kernel_rfl
  refine g_bd hn ?_ (qs := #[(1, .int .i64 4)]) (v := .agg (laI 0 4 0 0 0 0 0 0 0 0 0 0)) (hx := bdL w)
  refine al_row hn (alL w) ?_
  intro g w2 hg hX hB
  refine g_str hX ?_ (h1 := li_one exL)
  intro w3 ho hX3
  refine fl_end ?_
  clear hn
  subst ha
  dsimp only [fr, cnd, Act.put, cond_true]
  simp only [List.setIfInBounds_toArray, List.set_cons_zero, List.set_cons_succ]
  have hB3 : Below w.heap.size w w3 := hB.trans (ho.below (by omega))
  clear hX hB ho
  have l1 : ∀ W, Kp w3 W → (Instr.loadAt 23 (.pointer (some ⟨g, 0, none⟩))).run Try.prog W = .ok (.agg (liA exL)) W := fun W h => ld_liL (h.blk hX3) rfl
  have c4 : ∀ W, Kp w3 W → _ := kp_c fun W _ => ask_any exL 1 4 W exL_sml
  have c5 : ∀ W, Kp w3 W → _ := kp_c fun W _ => ask_any exL 1 5 W exL_sml
  have c6 : ∀ W, Kp w3 W → _ := kp_c fun W _ => ask_any exL 1 6 W exL_sml
  have c7 : ∀ W, Kp w3 W → _ := kp_c fun W _ => next_any exL 1 W exL_sml
  go_upto_region 2 with fail
  refine wp_region_lit ?_
  refine fs_start (Kp w3) (Kp.refl _) ?_
  generalize ha : Act.mk _ _ = a0
  have hn : a0.tmps.size = 24 := by rw [← ha]; kernel_rfl
  have h1 : (fr a0 []).eval (.tmp 1) = .pointer (some ⟨g, 0, none⟩) := by rw [← ha]; kernel_rfl
  refine fs_know hn rfl h1 ?_
  clear h1
  refine s_ld hn ?_
  refine s_bd hn ?_ (hp := fun hk hg => by simp only [List.map_toArray, List.map_cons, List.map_nil]; try rfl) (hx := fun W _ => bdId 1 4 W) (qs := #[(0, .int .i64 1), (1, .int .i64 4)]) (v := .agg #[.int .i64 1, .int .i64 4])
  refine s_calltt hn ?_ (he := en_spinney_roster_Ask)
  refine s_bc hn ?_ (hx := fun W _ => er_eql _ _ _ W)
  refine s_mv hn ?_
  refine s_ld hn ?_
  refine s_bd hn ?_ (hp := fun hk hg => by simp only [List.map_toArray, List.map_cons, List.map_nil]; try rfl) (hx := fun W _ => bdId 1 5 W) (qs := #[(0, .int .i64 1), (1, .int .i64 5)]) (v := .agg #[.int .i64 1, .int .i64 5])
  refine s_calltt hn ?_ (he := en_spinney_roster_Ask)
  refine s_bc hn ?_ (hx := fun W _ => er_eql _ _ _ W)
  refine s_an hn ?_
  refine s_mv hn ?_
  refine s_ld hn ?_
  refine s_bd hn ?_ (hp := fun hk hg => by simp only [List.map_toArray, List.map_cons, List.map_nil]; try rfl) (hx := fun W _ => bdId 1 6 W) (qs := #[(0, .int .i64 1), (1, .int .i64 6)]) (v := .agg #[.int .i64 1, .int .i64 6])
  refine s_calltt hn ?_ (he := en_spinney_roster_Ask)
  refine s_bc hn ?_ (hx := fun W _ => er_eql _ _ _ W)
  refine s_an hn ?_
  refine s_mv hn ?_
  refine s_ld hn ?_
  refine s_calltc hn ?_ (he := en_spinney_roster_Next)
  refine s_eql hn ?_
  refine s_an hn ?_
  refine s_as hn ?_
  refine fs_end (fun w4 hS => ?_)
  clear hn
  subst ha
  dsimp only [fr, cnd, Act.put, cond_true]
  simp only [List.setIfInBounds_toArray, List.set_cons_zero, List.set_cons_succ]
  have hB4 := hB3.trans (hS.below.mono hB3.size)
  clear l1 c4 c5 c6 c7 hX3 hS hB3
  go_wp2_with fail
  go_ret
  exact ⟨ret_bool (by kernel_rfl), hB4⟩
/-! The law RosterPairs. -/
theorem pairs_true {x y : List Int} (hx : x.length = 12) (hy : y.length = 12) : joinL x y = joinL y x ∧ covB (joinL x y) x = true ∧ covB (joinL x y) y = true ∧ (covB x y = true → joinL x y = x) := by
  refine ⟨mk12_ext fun j _ => Int.max_comm .., (covB_iff (joinL_len ..)).2 fun j hj => ?_, (covB_iff (joinL_len ..)).2 fun j hj => ?_, fun h => of_decide_eq_true h⟩
  · rw [gI_join hj]
    omega
  · rw [gI_join hj]
    omega
set_option maxRecDepth 100000 in
set_option maxHeartbeats 4000000 in
theorem lawPairs_all (x y : List Int) (w : World) (hx : x.length = 12) (hy : y.length = 12) : Calls Try.prog 4 #[.agg (liA x), .agg (liA y)] w fun e w' => e = .returned (.bool true) ∧ Below w.heap.size w w' := by
  have hX0 := blk_new w (liA x) 23
  replace hX0 := hX0.alloc (.cells (liA y) 23)
  have hz1 : (w.alloc (.cells (liA x) 23)).heap.size = w.heap.size + 1 := by simp
  have hX1 := blk_new (w.alloc (.cells (liA x) 23)) (liA y) 23
  rw [hz1] at hX1
  have hB := ba (b0 w (.cells (liA x) 23)) (.cells (liA y) 23)
  have hzz : ((w.alloc (.cells (liA x) 23)).alloc (.cells (liA y) 23)).heap.size = w.heap.size + 2 := by simp
  go_enter Try.func4, Try.ntmps4
  go_upto_region 1 with fail
  generalize ((w.alloc (.cells (liA x) 23)).alloc (.cells (liA y) 23)) = W0 at hX0 hX1 hB hzz ⊢
  (try simp only [hz1])
  clear hz1
  generalize hb : w.heap.size = b at hX0 hX1 hB hzz ⊢
  have l1 : ∀ W, Kp W0 W → (Instr.loadAt 23 (.pointer (some ⟨b, 0, none⟩))).run Try.prog W = .ok (.agg (liA x)) W := fun W h => ld_liL (h.blk hX0) hx
  have l2 : ∀ W, Kp W0 W → (Instr.loadAt 23 (.pointer (some ⟨b + 1, 0, none⟩))).run Try.prog W = .ok (.agg (liA y)) W := fun W h => ld_liL (h.blk hX1) hy
  have c0 : ∀ W, Kp W0 W → _ := kp_c fun W _ => awake13_any W
  have c1 : ∀ W, Kp W0 W → _ := kp_c fun W _ => refGL_any x W hx
  have c2 : ∀ W, Kp W0 W → _ := kp_c fun W _ => refGL_any y W hy
  refine wp_region_lit ?_
  refine fs_start (Kp W0) (Kp.refl _) ?_
  generalize ha : Act.mk _ _ = a0
  have hn : a0.tmps.size = 64 := by rw [← ha]; kernel_rfl
  have h2 : (fr a0 []).eval (.tmp 2) = .pointer (some ⟨b, 0, none⟩) := by rw [← ha]; kernel_rfl
  refine fs_know hn rfl h2 ?_
  clear h2
  have h3 : (fr a0 [(2, true, .pointer (some ⟨b, 0, none⟩))]).eval (.tmp 3) = .pointer (some ⟨b + 1, 0, none⟩) := by rw [← ha]; kernel_rfl
  refine fs_know hn rfl h3 ?_
  clear h3
  refine s_call hn ?_ (he := en_spinney_spinneylaw13_awake)
  refine s_nt hn ?_
  refine s_mv hn ?_
  refine s_ld hn ?_
  refine s_callt hn ?_ (he := en_spinney_spinneyref07_GoodLasts)
  refine s_nt hn ?_
  refine s_or hn ?_
  refine s_mv hn ?_
  refine s_ld hn ?_
  refine s_callt hn ?_ (he := en_spinney_spinneyref07_GoodLasts)
  refine s_nt hn ?_
  refine s_or hn ?_
  refine fs_end (fun w2 hS => ?_)
  clear hn
  subst ha
  dsimp only [fr, cnd, Act.put, cond_true]
  simp only [List.setIfInBounds_toArray, List.set_cons_zero, List.set_cons_succ]
  cases hg : glaB x && glaB y with
  | false =>
    have e : ((!true || !glaB x) || !glaB y) = true := by
      revert hg
      cases glaB x <;> cases glaB y <;> simp
    simp only [e]
    clear e hg
    go_upto_region 2 with fail
    refine wp_region_lit ?_
    refine fs_start (Kp W0) (hS) ?_
    generalize ha : Act.mk _ _ = a0
    have hn : a0.tmps.size = 64 := by rw [← ha]; kernel_rfl
    refine s_call hn ?_ (he := en_spinney_spinneylaw13_awake)
    refine s_as hn ?_
    refine fs_end (fun w3 hS3 => ?_)
    clear hn
    subst ha
    dsimp only [fr, cnd, Act.put, cond_true]
    simp only [List.setIfInBounds_toArray, List.set_cons_zero, List.set_cons_succ]
    have hB3 : Below b w w3 := hB.trans (hS3.below.mono (by omega))
    clear l1 l2 c0 c1 c2 hX0 hX1 hS hS3 hB
    go_wp2_with fail
    go_ret
    exact ⟨rfl, by first | exact hB3 | (rw [hb]; exact hB3)⟩
  | true =>
    have e : ((!true || !glaB x) || !glaB y) = false := by
      revert hg
      cases glaB x <;> cases glaB y <;> simp
    simp only [e]
    clear e hg c0 c1 c2
    have c3 := kp_c (w0 := W0) fun W _ => join_any x y W hx hy
    go_upto_region 3 with fail
    refine wp_region_lit ?_
    refine fs_start (Kp W0) (hS) ?_
    generalize ha : Act.mk _ _ = a0
    have hn : a0.tmps.size = 64 := by rw [← ha]; kernel_rfl
    have h2 : (fr a0 []).eval (.tmp 2) = .pointer (some ⟨b, 0, none⟩) := by rw [← ha]; kernel_rfl
    refine fs_know hn rfl h2 ?_
    clear h2
    have h3 : (fr a0 [(2, true, .pointer (some ⟨b, 0, none⟩))]).eval (.tmp 3) = .pointer (some ⟨b + 1, 0, none⟩) := by rw [← ha]; kernel_rfl
    refine fs_know hn rfl h3 ?_
    clear h3
    refine s_ld hn ?_
    refine s_ld hn ?_
    refine s_calltt hn ?_ (he := en_spinney_roster_Join)
    refine fs_fl fun w3 hS3 => ?_
    refine al_row hn (alL w3) ?_
    intro g w4 hg hX4 hB4
    refine g_str hX4 ?_ (hs := by rw [li_size, joinL_len]; rfl) (hi := by rw [li_size, joinL_len]; kernel_rfl) (h1 := li_one _)
    intro w5 ho hX5
    refine fl_end ?_
    clear hn
    subst ha
    dsimp only [fr, cnd, Act.put, cond_true]
    simp only [List.setIfInBounds_toArray, List.set_cons_zero, List.set_cons_succ]
    have hB5 : Below b w w5 := (hB.trans ((hS3.below.mono (by omega)).trans (hB4.mono (by have := hS3.below.size; omega)))).trans (ho.below (by have := hS3.below.size; omega))
    have hY : Kp W0 w5 := Below.trans (hS3.trans hB4) (ho.below (by have := hS3.below.size; omega))
    have hX0' := hY.blk hX0
    have hX1' := hY.blk hX1
    clear c3 hX4 ho l1 l2
    have l1 : ∀ W, Kp w5 W → (Instr.loadAt 23 (.pointer (some ⟨b, 0, none⟩))).run Try.prog W = .ok (.agg (liA x)) W := fun W h => ld_liL (h.blk hX0') hx
    have l2 : ∀ W, Kp w5 W → (Instr.loadAt 23 (.pointer (some ⟨b + 1, 0, none⟩))).run Try.prog W = .ok (.agg (liA y)) W := fun W h => ld_liL (h.blk hX1') hy
    have l3 : ∀ W, Kp w5 W → (Instr.loadAt 23 (.pointer (some ⟨g, 0, none⟩))).run Try.prog W = .ok (.agg (liA (joinL x y))) W := fun W h => ld_liL (h.blk hX5) (joinL_len ..)
    have c1 : ∀ W, Kp w5 W → _ := kp_c fun W _ => refJoin_any x y W hx hy
    have c2 : ∀ W, Kp w5 W → _ := kp_c fun W _ => join_any y x W hy hx
    have c3 : ∀ W, Kp w5 W → _ := kp_c fun W _ => covers_any x y W hx hy
    have c4 : ∀ W, Kp w5 W → _ := kp_c fun W _ => refCovers_any x y W hx hy
    have c5 : ∀ W, Kp w5 W → _ := kp_c fun W _ => covers_any (joinL x y) x W (joinL_len ..) hx
    have c6 : ∀ W, Kp w5 W → _ := kp_c fun W _ => covers_any (joinL x y) y W (joinL_len ..) hy
    have e1 : ∀ W, Kp w5 W → _ := fun W _ => li_eqC 22 25 (joinL_len x y) (joinL_len x y) W
    have e2 : ∀ W, Kp w5 W → _ := fun W _ => li_eqC 28 31 (joinL_len x y) (joinL_len y x) W
    have e3 : ∀ W, Kp w5 W → _ := fun W _ => li_eqC 59 60 (joinL_len x y) hx W
    go_upto_region 4 with fail
    refine fc_start (S := Kp w5) (by kernel_rfl) (Kp.drew _) ?_
    generalize ha : Act.mk _ _ = a0
    have hn : a0.tmps.size = 64 := by rw [← ha]; kernel_rfl
    have h2 : (fr a0 []).eval (.tmp 2) = .pointer (some ⟨b, 0, none⟩) := by rw [← ha]; kernel_rfl
    refine fc_know hn rfl h2 ?_
    clear h2
    have h3 : (fr a0 [(2, true, .pointer (some ⟨b, 0, none⟩))]).eval (.tmp 3) = .pointer (some ⟨b + 1, 0, none⟩) := by rw [← ha]; kernel_rfl
    refine fc_know hn rfl h3 ?_
    clear h3
    have h5 : (fr a0 [(3, true, .pointer (some ⟨b + 1, 0, none⟩)), (2, true, .pointer (some ⟨b, 0, none⟩))]).eval (.tmp 5) = .pointer (some ⟨g, 0, none⟩) := by rw [← ha]; kernel_rfl
    refine fc_know hn rfl h5 ?_
    clear h5
    refine c_ld 0 hn ?_
    refine c_ld 1 hn ?_
    refine c_ld 2 hn ?_
    refine c_calltt 3 hn ?_ (he := en_spinney_spinneyref13_Join)
    refine c_bn 4 hn ?_
    refine c_mv 5 hn ?_
    refine c_ld 6 hn ?_
    refine c_ld 7 hn ?_
    refine c_ld 8 hn ?_
    refine c_calltt 9 hn ?_ (he := en_spinney_roster_Join)
    refine c_bn 10 hn ?_
    refine c_an 11 hn ?_
    refine c_mv 12 hn ?_
    refine c_ld 13 hn ?_
    refine c_ld 14 hn ?_
    refine c_calltt 15 hn ?_ (he := en_spinney_roster_Covers)
    refine c_ld 16 hn ?_
    refine c_ld 17 hn ?_
    refine c_calltt 18 hn ?_ (he := en_spinney_spinneyref13_Covers)
    refine c_bn 19 hn ?_ (hx := fun W _ => bo_eql2 _ _ _ _ W)
    refine c_an 20 hn ?_
    refine c_mv 21 hn ?_
    refine c_ld 22 hn ?_
    refine c_ld 23 hn ?_
    refine c_calltt 24 hn ?_ (he := en_spinney_roster_Covers)
    refine c_an 25 hn ?_
    refine c_mv 26 hn ?_
    refine c_ld 27 hn ?_
    refine c_ld 28 hn ?_
    refine c_calltt 29 hn ?_ (he := en_spinney_roster_Covers)
    refine c_an 30 hn ?_
    refine c_mv 31 hn ?_
    refine c_ld 32 hn ?_
    refine c_ld 33 hn ?_
    refine c_calltt 34 hn ?_ (he := en_spinney_roster_Covers)
    refine c_nt 35 hn ?_
    refine c_mv 36 hn ?_
    refine c_ld 37 hn ?_
    refine c_ld 38 hn ?_
    refine c_bn 39 hn ?_
    refine c_or 40 hn ?_
    refine c_an 41 hn ?_
    refine c_as 42 hn ?_
    refine fc_end (fun w6 hS6 => ?_)
    clear hn
    subst ha
    dsimp only [fr, cnd, Act.put, cond_true]
    simp only [List.setIfInBounds_toArray, List.set_cons_zero, List.set_cons_succ]
    have hB6 : Below b w w6 := hB5.trans (hS6.below.mono (by have := hB5.size; omega))
    obtain ⟨p1, p2, p3, p4⟩ := pairs_true hx hy
    have R : Hid ((decide (joinL x y = joinL y x) && covB (joinL x y) x && covB (joinL x y) y && (!covB x y || decide (joinL x y = x))) = true) := by
      show _ = true
      rw [p2, p3, ← p1]
      cases hc : covB x y with
      | false => simp
      | true => rw [p4 hc]; simp
    clear l1 l2 l3 c1 c2 c3 c4 c5 c6 e1 e2 e3 p1 p2 p3 p4 hX0 hX1 hX0' hX1' hX5 hY hS6 hB4 hB5 hS3 hS hB
    go_wp2_with fail
    go_ret
    exact ⟨ret_bool (by have r := R.out; simp only [decide_true, Bool.true_and, beq_self_eq_true, Bool.and_true]; exact r), by first | exact hB6 | (rw [hb]; exact hB6)⟩
theorem rosterPairs_all (x0 x1 x2 x3 x4 x5 x6 x7 x8 x9 x10 x11 y0 y1 y2 y3 y4 y5 y6 y7 y8 y9 y10 y11 : Int) (w : World) : Calls Try.prog 4 #[.agg (laI x0 x1 x2 x3 x4 x5 x6 x7 x8 x9 x10 x11), .agg (laI y0 y1 y2 y3 y4 y5 y6 y7 y8 y9 y10 y11)] w fun e w' => e = .returned (.bool true) ∧ Below w.heap.size w w' := lawPairs_all (laL x0 x1 x2 x3 x4 x5 x6 x7 x8 x9 x10 x11) (laL y0 y1 y2 y3 y4 y5 y6 y7 y8 y9 y10 y11) w rfl rfl
end Go.Proofs.Ytgbopikhdpmmcaa
