/-
  WHAT IS PROVED: fresh.Cell answers what was handed in; the cells of a leaf (At). Conditions: those typed in each theorem.
-/
import Derived.Test.YtokkmofcijfmiabGQ12
import Derived.Test.YtokkmofcijfmiabGQ13
namespace Go.Proofs.Ytokkmofcijfmiab
open Go.RowKit

theorem en_spinney_fresh_Cell : ∀ args w, (callFunc 35 args).run Try.prog w = .ok (.enter 35 args) w := enters_of Try.func35 (by kernel_rfl) rfl
theorem en_fv28 : ∀ args w, (callFunc 49 args).run Try.prog w = .ok (.enter 49 args) w := enters_of Try.func49 (by kernel_rfl) rfl
theorem en_sc28 : ∀ args w, (callFunc 46 args).run Try.prog w = .ok (.enter 46 args) w := enters_of Try.func46 (by kernel_rfl) rfl
theorem en_spinney_burl_At : ∀ args w, (callFunc 13 args).run Try.prog w = .ok (.enter 13 args) w := enters_of Try.func13 (by kernel_rfl) rfl

theorem bel_un28 {b : Nat} {w w' : World} (h : Below b w.drew w') : Below b w w' := ⟨h.os, h.tape, h.output, h.size, h.block⟩
theorem st_cl {W : World} {b : Nat} {cs : Array Value} (x : Cl) (hX : Blk W b cs tCl) (hz : cs.size = 4) : (Instr.storeAt tCl (.pointer (some ⟨b, 0, none⟩)) (.agg x.cells)).run Try.prog W = .ok () (W.setRow b x.cells) := by
  have hi : (Try.prog.info? tCl).map (·.size) = some x.cells.size := by
    show _ = some 4
    kernel_rfl
  simp only [Instr.storeAt, Instr.sureAddr, Sem.run_bind, Sem.run_pure, Result.andThen_ok]
  exact run_storeVar_row W b tCl tCl cs x.cells hX hi (by rw [hz]; rfl) (cl_oneC x)
set_option maxRecDepth 100000 in
set_option maxHeartbeats 4000000 in
theorem freshCl_any (x : Cl) (w : World) (h1 : x.ky.size ≤ 1000000) (h2 : x.s.size ≤ 1000000) : Calls Try.prog 35 #[.agg x.cells] w fun e w' => e = .returned (.agg x.cells) ∧ Below w.heap.size w w' := by
  have hX0 := blk_new w x.cells 54
  replace hX0 := hX0.alloc (.cells (clI ⟨#[]⟩ 0 0 ⟨#[]⟩) 54)
  have hz1 : (w.alloc (.cells x.cells 54)).heap.size = w.heap.size + 1 := by simp
  have hX1 := blk_new (w.alloc (.cells x.cells 54)) (clI ⟨#[]⟩ 0 0 ⟨#[]⟩) 54
  rw [hz1] at hX1
  have hB := ba (b0 w (.cells x.cells 54)) (.cells (clI ⟨#[]⟩ 0 0 ⟨#[]⟩) 54)
  have hzz : ((w.alloc (.cells x.cells 54)).alloc (.cells (clI ⟨#[]⟩ 0 0 ⟨#[]⟩) 54)).heap.size = w.heap.size + 2 := by simp
  go_enter Try.func35, Try.ntmps35
  go_upto_region 1 with fail
  generalize ((w.alloc (.cells x.cells 54)).alloc (.cells (clI ⟨#[]⟩ 0 0 ⟨#[]⟩) 54)) = W0 at hX0 hX1 hB hzz ⊢
  (try simp only [hz1])
  clear hz1
  generalize hb : w.heap.size = b at hX0 hX1 hB hzz ⊢
  have f0 : ∀ W, (fun W => Blk W b x.cells tCl ∧ ∃ cs, Blk W (b + 1) cs tCl) W → _ := fun W _ => fcl0 W b
  have f1 : ∀ W, (fun W => Blk W b x.cells tCl ∧ ∃ cs, Blk W (b + 1) cs tCl) W → _ := fun W _ => fcl1 W b
  have f3 : ∀ W, (fun W => Blk W b x.cells tCl ∧ ∃ cs, Blk W (b + 1) cs tCl) W → _ := fun W h => ld_ky h.1
  have f4 : ∀ W, (fun W => Blk W b x.cells tCl ∧ ∃ cs, Blk W (b + 1) cs tCl) W → _ := fun W h => ld_cv h.1
  have f5 : ∀ W, (fun W => Blk W b x.cells tCl ∧ ∃ cs, Blk W (b + 1) cs tCl) W → (Instr.build 54 #[(0, .string x.ky), (1, .agg #[.int .i64 x.k, .int .i64 x.x, .string x.s])]).run Try.prog W = .ok (.agg x.cells) W := fun W _ => by kernel_rfl
  refine fh_start (S := (fun W => Blk W b x.cells tCl ∧ ∃ cs, Blk W (b + 1) cs tCl)) (by kernel_rfl) (⟨hX0, _, hX1⟩) (fun hS => ?_)
  generalize ha : Act.mk _ _ = a0
  have hn : a0.tmps.size = 10 := by rw [← ha]; kernel_rfl
  have h1 : (fr a0 []).eval (.tmp 1) = .pointer (some ⟨b, 0, none⟩) := by rw [← ha]; kernel_rfl
  refine fh_know hn rfl h1 ?_
  clear h1
  have h2 : (fr a0 [(1, true, .pointer (some ⟨b, 0, none⟩))]).eval (.tmp 2) = .pointer (some ⟨b + 1, 0, none⟩) := by rw [← ha]; kernel_rfl
  refine fh_know hn rfl h2 ?_
  clear h2
  refine h_fd 0 hn hS ?_
  refine h_ld 1 hn hS ?_
  refine h_fd 3 hn hS ?_
  refine h_ld 4 hn hS ?_
  refine h_c1 2 en_sc28 hn (R := fun v w2 => v = .string x.ky ∧ Below W0.heap.size W0 w2) ((sclone_any x.ky W0.drew h1).mono fun _ _ ⟨he, hb2⟩ => ⟨_, he, rfl, bel_un28 hb2⟩) ?_
  rintro v v1 ⟨rfl, hb1⟩
  have hX11 := hX1.keep hb1
  have hS1 : (fun W => Blk W b x.cells tCl ∧ ∃ cs, Blk W (b + 1) cs tCl) v1 := ⟨hX0.keep hb1, _, hX11⟩
  refine ⟨hS1, ?_⟩
  refine h_c1 5 en_fv28 hn (R := fun v w2 => v = .agg #[.int .i64 x.k, .int .i64 x.x, .string x.s] ∧ Below v1.heap.size v1 w2) ((freshValue_any x.k x.x x.s v1 h2).mono fun _ _ ⟨he, hb2⟩ => ⟨_, he, rfl, hb2⟩) ?_
  rintro v v2 ⟨rfl, hb2⟩
  have hX12 := hX11.keep hb2
  have hS2 : (fun W => Blk W b x.cells tCl ∧ ∃ cs, Blk W (b + 1) cs tCl) v2 := ⟨hS1.1.keep hb2, _, hX12⟩
  refine ⟨hS2, ?_⟩
  refine h_bd 6 hn hS2 ?_ (qs := #[(0, .string x.ky), (1, .agg #[.int .i64 x.k, .int .i64 x.x, .string x.s])]) (hp := fun hk _ => by simp only [List.map_toArray, List.map_cons, List.map_nil, lk_at hk (i := 5) rfl (fun _ => rfl) rfl, lk_at hk (i := 8) rfl (fun _ => rfl) rfl])
  have hrow := hX12.row x.cells
  have ho := only_row v2 (b + 1) x.cells
  refine h_st 7 (st_cl x hX12 rfl) ⟨hS2.1.only ho (by omega), _, hrow⟩ ?_
  refine fh_end (by kernel_rfl) ?_
  clear hn
  subst ha
  dsimp only [fr, cnd, Act.put, cond_true]
  simp only [List.setIfInBounds_toArray, List.set_cons_zero, List.set_cons_succ]
  have g1 := hB.trans (hb1.mono (by have := hB.size; omega))
  have g2 := g1.trans (hb2.mono (by have := g1.size; omega))
  have g3 := g2.trans (ho.below (by omega))
  go_wp2_with fail
  refine bodyPost_ret (results_cell_row Try.results35 _ _ (b + 1) 54 x.cells (0, 0) _ (by rfl) hrow Try.underlying54 (by rfl) (by kernel_rfl)) rfl ?_
  exact ⟨rfl, by first | exact g3 | (rw [hb]; exact g3)⟩
/-- The cells of a leaf. -/
def atL (l : List Cl) (j : Int) : List Cl := l.filter fun c => ((leafL c.ky.data.toList : Nat) : Int) == j
theorem atL_next {l : List Cl} {k : Nat} {c : Cl} (j : Int) (h : l[k]? = some c) : atL (l.take (k + 1)) j = if (((leafL c.ky.data.toList : Nat) : Int) == j) = true then atL (l.take k) j ++ [c] else atL (l.take k) j := by
  unfold atL
  rw [List.take_add_one, h, List.filter_append]
  cases hc : (((leafL c.ky.data.toList : Nat) : Int) == j) with
  | true => simp [hc]
  | false => simp [hc]
theorem atL_len (l : List Cl) (j : Int) : (atL l j).length ≤ l.length := List.length_filter_le _ _
theorem clEl_info : ElI tCl (.agg (clI ⟨#[]⟩ 0 0 ⟨#[]⟩)) 4 48 := by unfold ElI; kernel_rfl
theorem bsCl (x : Cl) (w : World) : (Instr.buildSlice 22 1 #[(0, .agg x.cells)]).run Try.prog w = .ok (.slice (some ⟨w.heap.size, 0, none⟩) 1 1) (w.alloc (.cells x.cells tCl)) := by
  obtain ⟨ky, k, n, t⟩ := x
  kernel_rfl
theorem clEl_szd (l : List Cl) : Szd 4 (l.map Cl.cells) := fun cs hc => by
  obtain ⟨x, _, rfl⟩ := List.mem_map.1 hc
  rfl
set_option maxRecDepth 100000 in
set_option maxHeartbeats 4000000 in
theorem at_any (A : Option Addr) (n c : Nat) (l : List Cl) (j : Int) (w : World) (hn : l.length = n) (hr : RdX 4 w.heap.size w A (l.map Cl.cells)) (hm : n ≤ 1000000) (hf : ∀ x, x ∈ l → x.ky.size ≤ 1000 ∧ x.s.size ≤ 1000) : Calls Try.prog 13 #[.slice A n c, .int .i64 j] w fun e w' => ∃ (A2 : Option Addr) (n2 c2 : Nat), e = .returned (.slice A2 n2 c2) ∧ OwnX tCl 4 w.heap.size w' A2 n2 c2 ((atL l j).map Cl.cells) ∧ Below w.heap.size w w' := by
  have HN := Lib.hid hn
  have HR := Lib.hid (fun W (h : Below w.heap.size w W) => hr.keep (W' := W) h (Nat.le_refl _))
  clear hn hr
  go_enter Try.func13, Try.ntmps13
  go_wp2_with fail
  go_loopw [5, 7, 10] (fun h5 _ i wr => ∃ (k : Nat) (A5 : Option Addr) (n5 c5 : Nat), k ≤ n ∧ i = .int .i64 k ∧ h5 = .slice A5 n5 c5 ∧ OwnX tCl 4 w.heap.size wr A5 n5 c5 ((atL (l.take k) j).map Cl.cells) ∧ Below w.heap.size w wr) (fun _ _ i _ => n - (intOf i).toNat)
  case atStart => exact ⟨0, none, 0, 0, Nat.zero_le _, rfl, rfl, OwnX.nil _ _ _ _, Below.refl _ _⟩
  case round =>
    obtain ⟨k, A5, n5, c5, hk, rfl, rfl, hO, hB⟩ := hrel
    by_cases hlt : k < n
    · obtain ⟨x, hx⟩ : ∃ x, l[k]? = some x := ⟨_, List.getElem?_eq_getElem (show k < l.length by have := HN.out; omega)⟩
      obtain ⟨ad, rfl, _, hc⟩ := HR.out wr hB k x.cells (by rw [List.getElem?_map, hx]; rfl)
      have i2 : (k : Int) < (n : Int) := by omega
      have hxf := hf x (List.mem_of_getElem? hx)
      have HX : Hid (atL (l.take (k + 1)) j = if (((leafL x.ky.data.toList : Nat) : Int) == j) = true then atL (l.take k) j ++ [x] else atL (l.take k) j) := atL_next j hx
      have hn5 : n5 ≤ k := by
        have h := hO.len
        rw [List.length_map] at h
        have h2 := atL_len (l.take k) j
        rw [List.length_take] at h2
        omega
      have ix := cix wr ad n c k hlt
      have ld := cld hc
      clear hc
      go_upto_region 4 with fail
      refine wp_region_lit ?_
      refine fl_start ?_
      generalize ha : Act.mk _ _ = a0
      have hn : a0.tmps.size = 26 := by rw [← ha]; kernel_rfl
      have h8 : (fr a0 []).eval (.tmp 8) = .slice (some ad) n c := by rw [← ha]; kernel_rfl
      refine fl_know hn rfl h8 ?_
      clear h8
      have h10 : (fr a0 [(8, true, .slice (some ad) n c)]).eval (.tmp 10) = .int .i64 (k : Int) := by rw [← ha]; kernel_rfl
      refine fl_know hn rfl h10 ?_
      clear h10
      refine g_ix hn ?_
      refine g_ld hn ?_
      refine al_row hn (alC wr) ?_
      intro q w3 hq hY hB2
      refine g_str hY ?_ (h1 := cl_oneC x)
      intro w4 ho hY4
      refine fl_end ?_
      clear hn
      subst ha
      dsimp only [fr, cnd, Act.put, cond_true]
      simp only [List.setIfInBounds_toArray, List.set_cons_zero, List.set_cons_succ]
      have hW4 : Below wr.heap.size wr w4 := hB2.trans (ho.below (by omega))
      have hO4 := hO.keep hW4
      have hB4 : Below w.heap.size w w4 := hB.trans (hW4.mono hB.size)
      have hqw : w.heap.size ≤ q := by have := hB.size; omega
      clear ix ld hY hB2 ho hW4 hO hq
      have c0 : w4.cell? ⟨q, 0, none⟩ = some (.string x.ky) := hY4.cell 0
      go_wp2_with fail
      refine (leaf_any x.ky w4 (by omega)).mono ?_
      rintro e w5 ⟨rfl, hb5⟩
      have hO5 := hO4.keep hb5
      have hY5 := hY4.keep hb5
      have hB5 : Below w.heap.size w w5 := hB4.trans (hb5.mono hB4.size)
      clear hO4 hY4 c0 hb5
      by_cases hj : (((leafL x.ky.data.toList : Nat) : Int) == j) = true
      · have HZ : Hid (atL (l.take (k + 1)) j = atL (l.take k) j ++ [x]) := by show _ = _; rw [HX.out, if_pos hj]
        have lY := cld_blk hY5
        have cF := freshCl_any x w5 (by omega) (by omega)
        go_upto_region 6 with fail
        refine wp_region_lit ?_
        refine fl_start ?_
        generalize ha : Act.mk _ _ = a0
        have hn : a0.tmps.size = 26 := by rw [← ha]; kernel_rfl
        have h5 : (fr a0 []).eval (.tmp 5) = .slice A5 n5 c5 := by rw [← ha]; kernel_rfl
        refine fl_know hn rfl h5 ?_
        clear h5
        have h7 : (fr a0 [(5, true, .slice A5 n5 c5)]).eval (.tmp 7) = .pointer (some ⟨q, 0, none⟩) := by rw [← ha]; kernel_rfl
        refine fl_know hn rfl h7 ?_
        clear h7
        refine g_mv hn ?_
        refine g_ld hn ?_
        refine g_c1x en_spinney_fresh_Cell hn (R := fun v w6 => v = .agg x.cells ∧ Below w5.heap.size w5 w6) (cF.mono fun _ _ ⟨he, hb2⟩ => ⟨_, he, rfl, hb2⟩) ?_
        rintro v w6 ⟨rfl, hb6⟩
        refine g_bsX hn Try.underlying22 clEl_info (by decide) (by decide) rfl (bsCl x) ?_
        intro g w7 hg hG hb7
        have hO6 := (hO5.keep hb6).keep hb7
        have hB6 : Below w.heap.size w w6 := hB5.trans (hb6.mono hB5.size)
        have hB7 : Below w.heap.size w w7 := hB6.trans (hb7.mono hB6.size)
        refine g_apX (base := w.heap.size) (m := 1) (xs := [x.cells]) hn Try.underlying22 clEl_info rfl (by decide) (by decide) hO6 (clEl_szd [x]) rfl (fun y hy u hu => ?_) (blk_rdC hG) (by omega) hB7.size (.inr (by decide)) ?_
        · rw [List.mem_singleton] at hy
          subst hy
          have h := cl_oneC x
          rw [Array.all_eq_true'] at h
          exact h u (by simpa using hu)
        rintro v w8 ⟨A8, c8, rfl, hO8, hB8, _⟩
        refine g_as hn ?_
        refine fl_end ?_
        clear hn
        subst ha
        dsimp only [fr, cnd, Act.put, cond_true]
        simp only [List.setIfInBounds_toArray, List.set_cons_zero, List.set_cons_succ]
        have hO9 : OwnX tCl 4 w.heap.size w8 A8 (n5 + 1) c8 ((atL (l.take (k + 1)) j).map Cl.cells) := by rw [HZ.out, List.map_append]; exact hO8
        clear hO5 hO6 hO8 lY cF hG hY5
        go_wp2_with fail
        refine ⟨?_, ?_⟩
        · first
          | exact ⟨k + 1, A8, n5 + 1, c8, by omega, by go_num, rfl, hO9, hB7.trans hB8⟩
          | repeat apply Exists.intro
            refine ⟨?_, rfl⟩
            exact ⟨k + 1, A8, n5 + 1, c8, by omega, by go_num, rfl, hO9, hB7.trans hB8⟩
        · simp [intOf]; omega
      · have hj2 : (((leafL x.ky.data.toList : Nat) : Int) == j) = false := by simpa using hj
        have hO9 : OwnX tCl 4 w.heap.size w5 A5 n5 c5 ((atL (l.take (k + 1)) j).map Cl.cells) := by rw [HX.out, if_neg hj]; exact hO5
        clear hO5
        go_wp2_with fail
        refine ⟨?_, ?_⟩
        · first
          | exact ⟨k + 1, A5, n5, c5, by omega, by go_num, rfl, hO9, hB5⟩
          | repeat apply Exists.intro
            refine ⟨?_, rfl⟩
            exact ⟨k + 1, A5, n5, c5, by omega, by go_num, rfl, hO9, hB5⟩
        · simp [intOf]; omega
    · have i2 : ¬ (k : Int) < (n : Int) := by omega
      have e : l.take k = l := List.take_of_length_le (by have := HN.out; omega)
      rw [e] at hO
      go_wp2_with fail
      go_ret
      exact ⟨A5, n5, c5, rfl, hO, hB⟩
end Go.Proofs.Ytokkmofcijfmiab
