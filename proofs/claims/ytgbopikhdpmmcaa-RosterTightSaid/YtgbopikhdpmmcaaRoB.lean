/-
  WHAT IS PROVED: roster's Join and Covers, and the document's. Conditions: those typed in each theorem.
-/
import Derived.Test.YtgbopikhdpmmcaaRoA
namespace Go.Proofs.Ytgbopikhdpmmcaa
open Go.RowKit

def joinL (x y : List Int) : List Int := mk12 fun i => max (gI x i) (gI y i)
def joinT (x y : List Int) (j : Nat) : List Int := mk12 fun i => if i < j then max (gI x i) (gI y i) else gI x i
theorem joinT_len (x y : List Int) (j : Nat) : (joinT x y j).length = 12 := mk12_len _
theorem joinT_0 {x : List Int} (h : x.length = 12) (y : List Int) : joinT x y 0 = x := by
  unfold joinT
  rw [mk12_ext (g := gI x) (fun j _ => if_neg (Nat.not_lt_zero j)), mk12_self h]
theorem joinT_12 (x y : List Int) : joinT x y 12 = joinL x y := mk12_ext fun j hj => if_pos hj
theorem joinT_at {x y : List Int} {j : Nat} (h : j < 12) : gI (joinT x y j) j = gI x j := by
  unfold joinT
  rw [gI_mk h, if_neg (by omega)]
theorem joinT_set {x y : List Int} {j : Nat} (h : j < 12) : (joinT x y j).set j (max (gI x j) (gI y j)) = joinT x y (j + 1) := by
  refine li_ext (by rw [List.length_set]; exact joinT_len ..) (joinT_len ..) fun k hk => ?_
  rw [gI_set (by rw [joinT_len]; exact hk)]
  unfold joinT
  rw [gI_mk hk, gI_mk hk]
  by_cases e : j = k
  · subst e
    rw [if_pos rfl, if_pos (by omega)]
  · rw [if_neg e]
    by_cases h1 : k < j
    · rw [if_pos h1, if_pos (by omega)]
    · rw [if_neg h1, if_neg (by omega)]
theorem joinT_same {x y : List Int} {j : Nat} (hj : j < 12) (h : ¬ gI x j < gI y j) : joinT x y j = joinT x y (j + 1) := by
  rw [← joinT_set hj]
  refine li_ext (joinT_len ..) (by rw [List.length_set]; exact joinT_len ..) fun k hk => ?_
  rw [gI_set (by rw [joinT_len]; exact hk)]
  split
  · rename_i e
    subst e
    rw [joinT_at hj, Int.max_def]
    split <;> omega
  · rfl
theorem ret_li {l b : List Int} (h : l = b) : Ending.returned (.agg (liA l)) = .returned (.agg (liA b)) := by rw [h]
theorem run_max (W : World) (x y : Int) (ts : Array TypeId) (ty : TypeId) (hx : ts = #[3, 3]) : (Builtin.max_ ts ty #[.int .i64 x, .int .i64 y]).run Try.prog W = .ok (.int .i64 (max x y)) W := by
  subst hx
  rw [Int.max_def]
  go_simp
  by_cases h1 : x < y
  · rw [if_pos h1, if_pos (by omega)]
  · by_cases h2 : x ≤ y
    · rw [if_neg h1, if_pos h2]; omega
    · rw [if_neg h1, if_neg h2]
set_option maxRecDepth 100000 in
set_option maxHeartbeats 4000000 in
theorem join_any (x y : List Int) (w : World) (hx : x.length = 12) (hy : y.length = 12) : Calls Try.prog 19 #[.agg (liA x), .agg (liA y)] w fun e w' => e = .returned (.agg (liA (joinL x y))) ∧ Below w.heap.size w w' := by
  have hX0 := blk_new w (liA x) 23
  replace hX0 := hX0.alloc (.cells (liA y) 23)
  replace hX0 := hX0.alloc (.cells (laI 0 0 0 0 0 0 0 0 0 0 0 0) 23)
  have hz1 : (w.alloc (.cells (liA x) 23)).heap.size = w.heap.size + 1 := by simp
  have hX1 := blk_new (w.alloc (.cells (liA x) 23)) (liA y) 23
  rw [hz1] at hX1
  replace hX1 := hX1.alloc (.cells (laI 0 0 0 0 0 0 0 0 0 0 0 0) 23)
  have hz2 : ((w.alloc (.cells (liA x) 23)).alloc (.cells (liA y) 23)).heap.size = w.heap.size + 2 := by simp
  have hX2 := blk_new ((w.alloc (.cells (liA x) 23)).alloc (.cells (liA y) 23)) (laI 0 0 0 0 0 0 0 0 0 0 0 0) 23
  rw [hz2] at hX2
  have hB := ba (ba (b0 w (.cells (liA x) 23)) (.cells (liA y) 23)) (.cells (laI 0 0 0 0 0 0 0 0 0 0 0 0) 23)
  have hzz : (((w.alloc (.cells (liA x) 23)).alloc (.cells (liA y) 23)).alloc (.cells (laI 0 0 0 0 0 0 0 0 0 0 0 0) 23)).heap.size = w.heap.size + 3 := by simp
  go_enter Try.func19, Try.ntmps19
  go_upto_region 1 with fail
  generalize (((w.alloc (.cells (liA x) 23)).alloc (.cells (liA y) 23)).alloc (.cells (laI 0 0 0 0 0 0 0 0 0 0 0 0) 23)) = W0 at hX0 hX1 hX2 hB hzz ⊢
  (try simp only [hz1, hz2])
  clear hz1 hz2
  generalize hb : w.heap.size = b at hX0 hX1 hX2 hB hzz ⊢
  have l1 : ∀ W, W = W0 → (Instr.loadAt 23 (.pointer (some ⟨b + 1, 0, none⟩))).run Try.prog W = .ok (.agg (liA y)) W := fun W e => by rw [e]; exact ld_liL hX1 hy
  refine wp_region_lit ?_
  refine fs_start (fun W => W = W0) (rfl) ?_
  generalize ha : Act.mk _ _ = a0
  have hn : a0.tmps.size = 21 := by rw [← ha]; kernel_rfl
  have h3 : (fr a0 []).eval (.tmp 3) = .pointer (some ⟨b + 1, 0, none⟩) := by rw [← ha]; kernel_rfl
  refine fs_know hn rfl h3 ?_
  clear h3
  refine s_ld hn ?_
  refine s_mc hn ?_
  refine fs_end (fun w2 hS => ?_)
  clear hn
  subst ha
  dsimp only [fr, cnd, Act.put, cond_true]
  simp only [List.setIfInBounds_toArray, List.set_cons_zero, List.set_cons_succ]
  subst hS
  go_wp2_with fail
  go_loopw [5, 6, 8] (fun _ _ i wr => ∃ j : Nat, j ≤ 12 ∧ i = .int .i64 j ∧ Blk wr b (liA (joinT x y j)) 23 ∧ Blk wr (b + 2) (laI 0 0 0 0 0 0 0 0 0 0 0 0) 23 ∧ Below b w wr) (fun _ _ i _ => 12 - (intOf i).toNat)
  case atStart => exact ⟨0, by omega, rfl, by rw [joinT_0 hx]; exact hX0, hX2, hB⟩
  case round =>
    clear l1 hX0 hX1 hX2 hB
    obtain ⟨j, hj, rfl, hX0, hX2, hB⟩ := hrel
    by_cases hlt : j < 12
    · have i1 : (j : Int) < 12 := by omega
      have hin := in_liL hy hlt
      have q := li_cell hX0 (j := j) (by rw [joinT_len]; exact hlt)
      rw [joinT_at hlt] at q
      have fr0 := hX0.free j
      have ix := ix_liL wr b j hlt
      have mx := fun W => run_max W (gI x j) (gI y j)
      have hX3 := hX0.set j (.int .i64 (max (gI x j) (gI y j)))
      rw [li_set, joinT_set hlt] at hX3
      have hX4 := hX2.other (c := b) (by omega) j (.int .i64 (max (gI x j) (gI y j)))
      have hB4 : Below b w (wr.setCell ⟨b, j, none⟩ (.int .i64 (max (gI x j) (gI y j)))) := hB.setCell (p := ⟨b, j, none⟩) (Nat.le_refl b) _
      clear hX0 hX2 hB
      go_wp2_with fail
      go_roundw
      case rel => exact ⟨j + 1, by omega, by go_num, hX3, hX4, hB4⟩
      case measure => simp [intOf]; omega
    · have e : j = 12 := by omega
      subst e
      rw [joinT_12] at hX0
      have l2 := ld_liL hX0 (mk12_len _)
      go_upto_region 6 with fail
      refine wp_region_lit ?_
      refine fl_start ?_
      generalize ha : Act.mk _ _ = a0
      have hn : a0.tmps.size = 21 := by rw [← ha]; kernel_rfl
      have h2 : (fr a0 []).eval (.tmp 2) = .pointer (some ⟨b, 0, none⟩) := by rw [← ha]; kernel_rfl
      refine fl_know hn rfl h2 ?_
      clear h2
      have h4 : (fr a0 [(2, true, .pointer (some ⟨b, 0, none⟩))]).eval (.tmp 4) = .pointer (some ⟨b + 2, 0, none⟩) := by rw [← ha]; kernel_rfl
      refine fl_know hn rfl h4 ?_
      clear h4
      refine g_ld hn ?_
      refine g_str hX2 ?_ (hs := by rw [li_size, joinL, mk12_len]; rfl) (hi := by rw [li_size, joinL, mk12_len]; kernel_rfl) (h1 := li_one _)
      intro w4 ho hX4
      refine fl_end ?_
      clear hn
      subst ha
      dsimp only [fr, cnd, Act.put, cond_true]
      simp only [List.setIfInBounds_toArray, List.set_cons_zero, List.set_cons_succ]
      have hB4 := hB.trans (ho.below (B := b) (by omega))
      clear l2 hX0 hX2 ho hB
      obtain ⟨r0, r1, r2, r3, r4, r5, r6, r7, r8, r9, r10, r11, hr⟩ := li_cases (mk12_len (fun i => max (gI x i) (gI y i)))
      rw [show joinL x y = _ from hr] at hX4
      go_wp2_with fail
      refine bodyPost_ret (results_cell_row Try.results19 _ _ (b + 2) 23 (laI r0 r1 r2 r3 r4 r5 r6 r7 r8 r9 r10 r11) (0, 0) _ (by rfl) hX4 Try.underlying23 (by rfl) (by kernel_rfl)) rfl ?_
      exact ⟨ret_li (l := laL r0 r1 r2 r3 r4 r5 r6 r7 r8 r9 r10 r11) hr.symm, by first | exact hB4 | (rw [hb]; exact hB4)⟩
/-- Nowhere below. -/
def covB (x y : List Int) : Bool := decide (joinL x y = x)
theorem joinL_len (x y : List Int) : (joinL x y).length = 12 := mk12_len _
theorem gI_join {x y : List Int} {j : Nat} (h : j < 12) : gI (joinL x y) j = max (gI x j) (gI y j) := gI_mk h
theorem covB_iff {x y : List Int} (hx : x.length = 12) : covB x y = true ↔ ∀ j, j < 12 → gI y j ≤ gI x j := by
  unfold covB
  rw [decide_eq_true_iff]
  constructor
  · intro h j hj
    have e := gI_join (x := x) (y := y) hj
    rw [h] at e
    omega
  · intro h
    refine li_ext (joinL_len ..) hx fun j hj => ?_
    rw [gI_join hj]
    have := h j hj
    omega
set_option maxRecDepth 100000 in
set_option maxHeartbeats 4000000 in
theorem covers_any (x y : List Int) (w : World) (hx : x.length = 12) (hy : y.length = 12) : Calls Try.prog 21 #[.agg (liA x), .agg (liA y)] w fun e w' => e = .returned (.bool (covB x y)) ∧ Below w.heap.size w w' := by
  have hX0 := blk_new w (liA x) 23
  replace hX0 := hX0.alloc (.cells (liA y) 23)
  have hz1 : (w.alloc (.cells (liA x) 23)).heap.size = w.heap.size + 1 := by simp
  have hX1 := blk_new (w.alloc (.cells (liA x) 23)) (liA y) 23
  rw [hz1] at hX1
  have hB := ba (b0 w (.cells (liA x) 23)) (.cells (liA y) 23)
  have hzz : ((w.alloc (.cells (liA x) 23)).alloc (.cells (liA y) 23)).heap.size = w.heap.size + 2 := by simp
  go_enter Try.func21, Try.ntmps21
  go_upto_region 1 with fail
  generalize ((w.alloc (.cells (liA x) 23)).alloc (.cells (liA y) 23)) = W0 at hX0 hX1 hB hzz ⊢
  (try simp only [hz1])
  clear hz1
  generalize hb : w.heap.size = b at hX0 hX1 hB hzz ⊢
  have l1 : ∀ W, Kp W0 W → (Instr.loadAt 23 (.pointer (some ⟨b, 0, none⟩))).run Try.prog W = .ok (.agg (liA x)) W := fun W h => ld_liL (h.blk hX0) hx
  have l2 : ∀ W, Kp W0 W → (Instr.loadAt 23 (.pointer (some ⟨b + 1, 0, none⟩))).run Try.prog W = .ok (.agg (liA y)) W := fun W h => ld_liL (h.blk hX1) hy
  have HC := kp_c (w0 := W0) fun W _ => join_any x y W hx hy
  have HE : ∀ W, Kp W0 W → _ := fun W _ => li_eqC 7 8 (joinL_len x y) hx W
  refine fc_start (S := Kp W0) (by kernel_rfl) (Kp.drew _) ?_
  generalize ha : Act.mk _ _ = a0
  have hn : a0.tmps.size = 10 := by rw [← ha]; kernel_rfl
  have h2 : (fr a0 []).eval (.tmp 2) = .pointer (some ⟨b, 0, none⟩) := by rw [← ha]; kernel_rfl
  refine fc_know hn rfl h2 ?_
  clear h2
  have h3 : (fr a0 [(2, true, .pointer (some ⟨b, 0, none⟩))]).eval (.tmp 3) = .pointer (some ⟨b + 1, 0, none⟩) := by rw [← ha]; kernel_rfl
  refine fc_know hn rfl h3 ?_
  clear h3
  refine c_ld 0 hn ?_
  refine c_ld 1 hn ?_
  refine c_calltt 2 hn ?_ (he := en_spinney_roster_Join)
  refine c_ld 3 hn ?_
  refine c_bn 4 hn ?_
  refine c_as 5 hn ?_
  refine fc_end (fun w2 hS => ?_)
  clear hn
  subst ha
  dsimp only [fr, cnd, Act.put, cond_true]
  simp only [List.setIfInBounds_toArray, List.set_cons_zero, List.set_cons_succ]
  have hB2 : Below b w w2 := hB.trans (hS.below.mono (by omega))
  clear HC HE l1 l2 hX0 hX1 hS hB
  go_wp2_with fail
  go_ret
  exact ⟨rfl, by first | exact hB2 | (rw [hb]; exact hB2)⟩
/-! The document's. -/
set_option maxRecDepth 100000 in
set_option maxHeartbeats 4000000 in
theorem refJoin_any (x y : List Int) (w : World) (hx : x.length = 12) (hy : y.length = 12) : Calls Try.prog 20 #[.agg (liA x), .agg (liA y)] w fun e w' => e = .returned (.agg (liA (joinL x y))) ∧ Below w.heap.size w w' := by
  have hX0 := blk_new w (liA x) 22
  replace hX0 := hX0.alloc (.cells (liA y) 22)
  replace hX0 := hX0.alloc (.cells (laI 0 0 0 0 0 0 0 0 0 0 0 0) 22)
  have hz1 : (w.alloc (.cells (liA x) 22)).heap.size = w.heap.size + 1 := by simp
  have hX1 := blk_new (w.alloc (.cells (liA x) 22)) (liA y) 22
  rw [hz1] at hX1
  replace hX1 := hX1.alloc (.cells (laI 0 0 0 0 0 0 0 0 0 0 0 0) 22)
  have hz2 : ((w.alloc (.cells (liA x) 22)).alloc (.cells (liA y) 22)).heap.size = w.heap.size + 2 := by simp
  have hX2 := blk_new ((w.alloc (.cells (liA x) 22)).alloc (.cells (liA y) 22)) (laI 0 0 0 0 0 0 0 0 0 0 0 0) 22
  rw [hz2] at hX2
  have hB := ba (ba (b0 w (.cells (liA x) 22)) (.cells (liA y) 22)) (.cells (laI 0 0 0 0 0 0 0 0 0 0 0 0) 22)
  have hzz : (((w.alloc (.cells (liA x) 22)).alloc (.cells (liA y) 22)).alloc (.cells (laI 0 0 0 0 0 0 0 0 0 0 0 0) 22)).heap.size = w.heap.size + 3 := by simp
  go_enter Try.func20, Try.ntmps20
  go_upto_region 1 with fail
  generalize (((w.alloc (.cells (liA x) 22)).alloc (.cells (liA y) 22)).alloc (.cells (laI 0 0 0 0 0 0 0 0 0 0 0 0) 22)) = W0 at hX0 hX1 hX2 hB hzz ⊢
  (try simp only [hz1, hz2])
  clear hz1 hz2
  generalize hb : w.heap.size = b at hX0 hX1 hX2 hB hzz ⊢
  go_wp2_with fail
  go_loopw [5, 6] (fun _ i wr => ∃ j : Nat, j ≤ 12 ∧ i = .int .i64 j ∧ Blk wr b (liA (joinT x y j)) 22 ∧ Blk wr (b + 1) (liA y) 22 ∧ Blk wr (b + 2) (laI 0 0 0 0 0 0 0 0 0 0 0 0) 22 ∧ Below b w wr) (fun _ i _ => 12 - (intOf i).toNat)
  case atStart => exact ⟨0, by omega, rfl, by rw [joinT_0 hx]; exact hX0, hX1, hX2, hB⟩
  case round =>
    clear hX0 hX1 hX2 hB
    obtain ⟨j, hj, rfl, hX0, hX1, hX2, hB⟩ := hrel
    by_cases hlt : j < 12
    · have i1 : (j : Int) < 12 := by omega
      have q := li_cell hX0 (j := j) (by rw [joinT_len]; exact hlt)
      rw [joinT_at hlt] at q
      have q2 := li_cell hX1 (j := j) (by omega)
      have H0 : ∀ W, W = wr.drew → (Instr.indexAt 22 (.pointer (some ⟨b + 1, 0, none⟩)) (.int .i64 (j : Int))).run Try.prog W = .ok (.pointer (some ⟨b + 1, j, none⟩)) W := fun W _ => ix_liA W (b + 1) j hlt
      have H1 : ∀ W, W = wr.drew → (Instr.indexAt 22 (.pointer (some ⟨b, 0, none⟩)) (.int .i64 (j : Int))).run Try.prog W = .ok (.pointer (some ⟨b, j, none⟩)) W := fun W _ => ix_liA W b j hlt
      have H2 : ∀ W, W = wr.drew → (Instr.loadAt 3 (.pointer (some ⟨b + 1, j, none⟩))).run Try.prog W = .ok (.int .i64 (gI y j)) W := fun W e => by rw [e]; exact load_int q2
      have H3 : ∀ W, W = wr.drew → (Instr.loadAt 3 (.pointer (some ⟨b, j, none⟩))).run Try.prog W = .ok (.int .i64 (gI x j)) W := fun W e => by rw [e]; exact load_int q
      go_upto_region 4 with fail
      refine fc_start (S := fun W => W = wr.drew) (by kernel_rfl) (rfl) ?_
      generalize ha : Act.mk _ _ = a0
      have hn : a0.tmps.size = 23 := by rw [← ha]; kernel_rfl
      have h2 : (fr a0 []).eval (.tmp 2) = .pointer (some ⟨b, 0, none⟩) := by rw [← ha]; kernel_rfl
      refine fc_know hn rfl h2 ?_
      clear h2
      have h3 : (fr a0 [(2, true, .pointer (some ⟨b, 0, none⟩))]).eval (.tmp 3) = .pointer (some ⟨b + 1, 0, none⟩) := by rw [← ha]; kernel_rfl
      refine fc_know hn rfl h3 ?_
      clear h3
      have h5 : (fr a0 [(3, true, .pointer (some ⟨b + 1, 0, none⟩)), (2, true, .pointer (some ⟨b, 0, none⟩))]).eval (.tmp 5) = .int .i64 (j : Int) := by rw [← ha]; kernel_rfl
      refine fc_know hn rfl h5 ?_
      clear h5
      refine c_mv 0 hn ?_
      refine c_ix 1 hn ?_
      refine c_ld 2 hn ?_
      refine c_mv 3 hn ?_
      refine c_ix 4 hn ?_
      refine c_ld 5 hn ?_
      refine c_gtr2 6 hn ?_
      refine fc_end (fun w2 hS => ?_)
      clear hn
      subst ha
      dsimp only [fr, cnd, Act.put, cond_true]
      simp only [List.setIfInBounds_toArray, List.set_cons_zero, List.set_cons_succ]
      subst hS
      clear H0 H1 H2 H3
      by_cases hc : gI x j < gI y j
      · have fr0 := hX0.free j
        have ix := ix_liA wr.drew (b + 1) j hlt
        have ix2 := ix_liA wr.drew b j hlt
        have hX3 := hX0.set j (.int .i64 (max (gI x j) (gI y j)))
        rw [li_set, joinT_set hlt, show max (gI x j) (gI y j) = gI y j by omega] at hX3
        have hX4 := hX1.other (c := b) (by omega) j (.int .i64 (gI y j))
        have hX5 := hX2.other (c := b) (by omega) j (.int .i64 (gI y j))
        have hB4 : Below b w (wr.setCell ⟨b, j, none⟩ (.int .i64 (gI y j))) := hB.setCell (p := ⟨b, j, none⟩) (Nat.le_refl b) _
        have q3 : wr.drew.cell? ⟨b, j, none⟩ = some (.int .i64 (gI x j)) := q
        have q4 : wr.drew.cell? ⟨b + 1, j, none⟩ = some (.int .i64 (gI y j)) := q2
        clear hX0 hX1 hX2 hB q q2
        go_wp2_with fail
        go_roundw
        case rel => exact ⟨j + 1, by omega, by go_num, hX3, hX4, hX5, hB4.drew⟩
        case measure => simp [intOf]; omega
      · rw [joinT_same hlt hc] at hX0
        clear q q2
        go_wp2_with fail
        go_roundw
        case rel => exact ⟨j + 1, by omega, by go_num, hX0, hX1, hX2, hB.drew⟩
        case measure => simp [intOf]; omega
    · have e : j = 12 := by omega
      subst e
      rw [joinT_12] at hX0
      have l2 := ld_liA hX0 (mk12_len _)
      go_upto_region 7 with fail
      refine wp_region_lit ?_
      refine fl_start ?_
      generalize ha : Act.mk _ _ = a0
      have hn : a0.tmps.size = 23 := by rw [← ha]; kernel_rfl
      have h2 : (fr a0 []).eval (.tmp 2) = .pointer (some ⟨b, 0, none⟩) := by rw [← ha]; kernel_rfl
      refine fl_know hn rfl h2 ?_
      clear h2
      have h4 : (fr a0 [(2, true, .pointer (some ⟨b, 0, none⟩))]).eval (.tmp 4) = .pointer (some ⟨b + 2, 0, none⟩) := by rw [← ha]; kernel_rfl
      refine fl_know hn rfl h4 ?_
      clear h4
      refine g_ld hn ?_
      refine g_str hX2 ?_ (hs := by rw [li_size, joinL, mk12_len]; rfl) (hi := by rw [li_size, joinL, mk12_len]; kernel_rfl) (h1 := li_one _)
      intro w4 ho hX4
      refine fl_end ?_
      clear hn
      subst ha
      dsimp only [fr, cnd, Act.put, cond_true]
      simp only [List.setIfInBounds_toArray, List.set_cons_zero, List.set_cons_succ]
      have hB4 := hB.trans (ho.below (B := b) (by omega))
      clear l2 hX0 hX1 hX2 ho hB
      obtain ⟨r0, r1, r2, r3, r4, r5, r6, r7, r8, r9, r10, r11, hr⟩ := li_cases (mk12_len (fun i => max (gI x i) (gI y i)))
      rw [show joinL x y = _ from hr] at hX4
      go_wp2_with fail
      refine bodyPost_ret (results_cell_row Try.results20 _ _ (b + 2) 22 (laI r0 r1 r2 r3 r4 r5 r6 r7 r8 r9 r10 r11) (0, 0) _ (by rfl) hX4 Try.underlying22 (by rfl) (by kernel_rfl)) rfl ?_
      exact ⟨ret_li (l := laL r0 r1 r2 r3 r4 r5 r6 r7 r8 r9 r10 r11) hr.symm, by first | exact hB4 | (rw [hb]; exact hB4)⟩
set_option maxRecDepth 100000 in
set_option maxHeartbeats 4000000 in
theorem refCovers_any (x y : List Int) (w : World) (hx : x.length = 12) (hy : y.length = 12) : Calls Try.prog 22 #[.agg (liA x), .agg (liA y)] w fun e w' => e = .returned (.bool (covB x y)) ∧ Below w.heap.size w w' := by
  have hX0 := blk_new w (liA x) 22
  replace hX0 := hX0.alloc (.cells (liA y) 22)
  have hz1 : (w.alloc (.cells (liA x) 22)).heap.size = w.heap.size + 1 := by simp
  have hX1 := blk_new (w.alloc (.cells (liA x) 22)) (liA y) 22
  rw [hz1] at hX1
  have hB := ba (b0 w (.cells (liA x) 22)) (.cells (liA y) 22)
  have hzz : ((w.alloc (.cells (liA x) 22)).alloc (.cells (liA y) 22)).heap.size = w.heap.size + 2 := by simp
  go_enter Try.func22, Try.ntmps22
  go_upto_region 1 with fail
  generalize ((w.alloc (.cells (liA x) 22)).alloc (.cells (liA y) 22)) = W0 at hX0 hX1 hB hzz ⊢
  (try simp only [hz1])
  clear hz1
  generalize hb : w.heap.size = b at hX0 hX1 hB hzz ⊢
  have HC := Lib.hid (covB_iff (y := y) hx)
  go_wp2_with fail
  go_loopw [5, 6] (fun _ i wr => ∃ j : Nat, j ≤ 12 ∧ i = .int .i64 j ∧ Kp W0 wr ∧ Hid (∀ k, k < j → gI y k ≤ gI x k)) (fun _ i _ => 12 - (intOf i).toNat)
  case atStart => exact ⟨0, by omega, rfl, Kp.refl _, fun k hk => absurd hk (Nat.not_lt_zero k)⟩
  case round =>
    obtain ⟨j, hj, rfl, hS, hA⟩ := hrel
    have hB2 : Below b w wr.drew := (hB.trans (hS.below.mono (by omega))).drew
    by_cases hlt : j < 12
    · have i1 : (j : Int) < 12 := by omega
      have q := li_cell (hS.blk hX0) (j := j) (by omega)
      have q2 := li_cell (hS.blk hX1) (j := j) (by omega)
      have hS' := hS.drews
      have H0 : ∀ W, W = wr.drew → (Instr.indexAt 22 (.pointer (some ⟨b + 1, 0, none⟩)) (.int .i64 (j : Int))).run Try.prog W = .ok (.pointer (some ⟨b + 1, j, none⟩)) W := fun W _ => ix_liA W (b + 1) j hlt
      have H1 : ∀ W, W = wr.drew → (Instr.indexAt 22 (.pointer (some ⟨b, 0, none⟩)) (.int .i64 (j : Int))).run Try.prog W = .ok (.pointer (some ⟨b, j, none⟩)) W := fun W _ => ix_liA W b j hlt
      have H2 : ∀ W, W = wr.drew → (Instr.loadAt 3 (.pointer (some ⟨b + 1, j, none⟩))).run Try.prog W = .ok (.int .i64 (gI y j)) W := fun W e => by rw [e]; exact load_int q2
      have H3 : ∀ W, W = wr.drew → (Instr.loadAt 3 (.pointer (some ⟨b, j, none⟩))).run Try.prog W = .ok (.int .i64 (gI x j)) W := fun W e => by rw [e]; exact load_int q
      clear hS q q2
      go_upto_region 4 with fail
      refine fc_start (S := fun W => W = wr.drew) (by kernel_rfl) (rfl) ?_
      generalize ha : Act.mk _ _ = a0
      have hn : a0.tmps.size = 17 := by rw [← ha]; kernel_rfl
      have h2 : (fr a0 []).eval (.tmp 2) = .pointer (some ⟨b, 0, none⟩) := by rw [← ha]; kernel_rfl
      refine fc_know hn rfl h2 ?_
      clear h2
      have h3 : (fr a0 [(2, true, .pointer (some ⟨b, 0, none⟩))]).eval (.tmp 3) = .pointer (some ⟨b + 1, 0, none⟩) := by rw [← ha]; kernel_rfl
      refine fc_know hn rfl h3 ?_
      clear h3
      have h5 : (fr a0 [(3, true, .pointer (some ⟨b + 1, 0, none⟩)), (2, true, .pointer (some ⟨b, 0, none⟩))]).eval (.tmp 5) = .int .i64 (j : Int) := by rw [← ha]; kernel_rfl
      refine fc_know hn rfl h5 ?_
      clear h5
      refine c_mv 0 hn ?_
      refine c_ix 1 hn ?_
      refine c_ld 2 hn ?_
      refine c_mv 3 hn ?_
      refine c_ix 4 hn ?_
      refine c_ld 5 hn ?_
      refine c_lss2 6 hn ?_
      refine fc_end (fun w2 hS => ?_)
      clear hn
      subst ha
      dsimp only [fr, cnd, Act.put, cond_true]
      simp only [List.setIfInBounds_toArray, List.set_cons_zero, List.set_cons_succ]
      subst hS
      clear H0 H1 H2 H3 hX0 hX1
      by_cases hc : gI x j < gI y j
      · have R : Hid (false = covB x y) := by
          show false = covB x y
          refine (Bool.eq_false_iff.2 fun h => ?_).symm
          have := HC.out.1 h j hlt
          omega
        clear HC hA
        go_wp2_with fail
        go_ret
        exact ⟨ret_bool R.out, by first | exact hB2 | (rw [hb]; exact hB2)⟩
      · have HA2 : Hid (∀ k, k < j + 1 → gI y k ≤ gI x k) := fun k hk => by
          by_cases e : k = j
          · subst e; omega
          · exact hA.out k (by omega)
        clear HC hA
        go_wp2_with fail
        go_roundw
        case rel => exact ⟨j + 1, by omega, by go_num, hS', HA2⟩
        case measure => simp [intOf]; omega
    · have e : j = 12 := by omega
      subst e
      have R : Hid (true = covB x y) := by
        show true = covB x y
        exact (HC.out.2 fun k hk => hA.out k hk).symm
      have hB3 : Below b w wr := hB.trans (hS.below.mono (by omega))
      clear HC hA hX0 hX1 hS
      go_wp2_with fail
      go_ret
      exact ⟨ret_bool R.out, by first | exact hB3 | (rw [hb]; exact hB3)⟩
end Go.Proofs.Ytgbopikhdpmmcaa
