/-
  WHAT IS PROVED: the document's burl of cells. Conditions: those typed in each theorem.
-/
import Derived.Test.YtokkmofcijfmiabBuH
namespace Go.Proofs.Ytokkmofcijfmiab
open Go.RowKit

theorem en_spinney_spinneyref28_Of : ∀ args w, (callFunc 32 args).run Try.prog w = .ok (.enter 32 args) w := enters_of Try.func32 (by kernel_rfl) rfl

theorem OwnB.only28 {base : Nat} {W W' : World} {A : Option Addr} {n c : Nat} {l : List UInt8} {g : Nat} (h : OwnB base W A n c l) (ho : Only1 g W W') (hg : g < base) : OwnB base W' A n c l := by
  refine ⟨h.1, ?_⟩
  rcases h.2 with h | ⟨g2, cap, cur, h1, h2, h3, h4⟩
  · exact .inl h
  · exact .inr ⟨g2, cap, cur, h1, h2, (ho.block g2 (by omega)).trans h3, h4⟩
theorem wdB_cons (k v : Nat) : wdB (k + 1) v = UInt8.ofNat (v / 256 ^ k % 256) :: wdB k v := by
  apply List.ext_getElem?
  intro i
  cases i with
  | zero => rw [wdB_get _ _ _ (by omega)]; simp
  | succ i =>
    rw [List.getElem?_cons_succ]
    by_cases h : i < k
    · rw [wdB_get _ _ _ h, wdB_get _ _ _ (by omega), show k + 1 - 1 - (i + 1) = k - 1 - i by omega]
    · rw [List.getElem?_eq_none (by rw [wdB_len]; omega), List.getElem?_eq_none (by rw [wdB_len]; omega)]
theorem wdB_zero (v : Nat) : wdB 0 v = [] := rfl
/-- The leaves so far. -/
def tbl (V : List Nat) (j : Nat) : List Nat := V.take j ++ List.replicate (16 - j) 0
theorem List.set_getElem?_self' {l : List Nat} {j x : Nat} (h : l[j]? = some x) : l.set j x = l := by
  obtain ⟨hk, rfl⟩ := List.getElem?_eq_some_iff.1 h
  simp
theorem tbl_zero (V : List Nat) : tbl V 0 = List.replicate 16 0 := by simp [tbl]
theorem tbl_len {V : List Nat} (h : V.length = 16) {j : Nat} (hj : j ≤ 16) : (tbl V j).length = 16 := by simp [tbl, h]; omega
theorem tbl_get {V : List Nat} (h : V.length = 16) {j : Nat} (hj : j < 16) : (tbl V j)[j]? = some 0 := by
  unfold tbl
  rw [List.getElem?_append_right (by rw [List.length_take]; omega), List.length_take, Nat.min_eq_left (by omega), Nat.sub_self, List.getElem?_replicate, if_pos (by omega)]
theorem tbl_set {V : List Nat} (h : V.length = 16) {j v : Nat} (hj : j < 16) (hv : V[j]? = some v) : (tbl V j).set j v = tbl V (j + 1) := by
  unfold tbl
  rw [List.set_append_right _ _ (by rw [List.length_take]; omega), List.length_take, Nat.min_eq_left (by omega), Nat.sub_self]
  obtain ⟨d, hd⟩ : ∃ d, 16 - j = d + 1 := ⟨16 - j - 1, by omega⟩
  rw [hd, show 16 - (j + 1) = d by omega, List.replicate_succ, List.set_cons_zero, List.take_add_one, hv, List.append_assoc]
  rfl
theorem tbl_all {V : List Nat} (h : V.length = 16) : tbl V 16 = V := by
  unfold tbl
  rw [List.take_of_length_le (by omega)]
  simp
/-- A leaf's sum over the cells so far. -/
def acc (l : List Cl) (j i : Nat) : Nat := gN (lvTo (l.take i)) j
theorem acc_zero (l : List Cl) {j : Nat} (hj : j < 16) : acc l j 0 = 0 := by
  unfold acc
  apply gN_some
  rw [List.take_zero, lvTo_zero, List.getElem?_replicate, if_pos hj]
theorem acc_hit {l : List Cl} {j i : Nat} {c : Cl} (hj : j < 16) (h : l[i]? = some c) (he : leafL c.ky.data.toList = j) : acc l j (i + 1) = (acc l j i + shrC c) % 18446744073709551616 := by
  unfold acc
  obtain ⟨y, hy⟩ := at16 (lvTo_len (l.take i)) hj
  rw [gN_some hy, lvTo_next h, he]
  apply gN_some
  unfold addL
  rw [List.getElem?_set_self (by rw [lvTo_len]; omega), List.getD_eq_getElem?_getD, hy]
  rfl
theorem acc_miss {l : List Cl} {j i : Nat} {c : Cl} (h : l[i]? = some c) (he : leafL c.ky.data.toList ≠ j) : acc l j (i + 1) = acc l j i := by
  unfold acc gN
  rw [lvTo_next h]
  unfold addL
  rw [List.getElem?_set_ne he]
theorem acc_all (l : List Cl) {j : Nat} (hj : j < 16) : (lvTo l)[j]? = some (acc l j l.length) := by
  obtain ⟨y, hy⟩ := at16 (lvTo_len l) hj
  unfold acc
  rw [List.take_length, gN_some hy, hy]
theorem acc_lt (l : List Cl) (j i : Nat) : acc l j i < 18446744073709551616 := by
  unfold acc gN
  split
  · next x hx => exact lvTo_lt _ x (List.mem_of_getElem? hx)
  · decide
/-- The table with the leaf that is summed. -/
def tab (l : List Cl) (j i : Nat) : List Nat := (tbl (lvTo l) j).set j (acc l j i)
theorem tab_len (l : List Cl) {j : Nat} (hj : j ≤ 16) (i : Nat) : (tab l j i).length = 16 := by unfold tab; rw [List.length_set]; exact tbl_len (lvTo_len l) hj
theorem tab_get (l : List Cl) {j : Nat} (hj : j < 16) (i : Nat) : (tab l j i)[j]? = some (acc l j i) := by
  unfold tab
  rw [List.getElem?_set_self (by rw [tbl_len (lvTo_len l) (by omega)]; omega)]
theorem tab_zero (l : List Cl) {j : Nat} (hj : j < 16) : tab l j 0 = tbl (lvTo l) j := by
  unfold tab
  rw [acc_zero l hj]
  exact List.set_getElem?_self' (tbl_get (lvTo_len l) hj)
theorem tab_all (l : List Cl) {j : Nat} (hj : j < 16) : tab l j l.length = tbl (lvTo l) (j + 1) := tbl_set (lvTo_len l) hj (acc_all l hj)
theorem tab_set (l : List Cl) (j i v : Nat) : (tab l j i).set j v = (tbl (lvTo l) j).set j v := by unfold tab; rw [List.set_set]
theorem frb0 (W : World) (b : Nat) : (Instr.fieldAt 66 (.pointer (some ⟨b, 0, none⟩)) 0).run Try.prog W = .ok (.pointer (some ⟨b, 0, none⟩)) W := by kernel_rfl
theorem frb1 (W : World) (b : Nat) : (Instr.fieldAt 66 (.pointer (some ⟨b, 0, none⟩)) 1).run Try.prog W = .ok (.pointer (some ⟨b, 1, none⟩)) W := by kernel_rfl
set_option maxRecDepth 100000 in
theorem ld_rb {W : World} {b r : Nat} {L : List Nat} (hX : Blk W b (buC r L) 66) (hl : L.length = 16) : (Instr.loadAt 66 (.pointer (some ⟨b, 0, none⟩))).run Try.prog W = .ok (.agg (buC r L)) W := by
  obtain ⟨a0, a1, a2, a3, a4, a5, a6, a7, a8, a9, a10, a11, a12, a13, a14, a15, rfl⟩ := bu_cases hl
  exact run_loadAt_mid W b 0 _ (buC r [a0, a1, a2, a3, a4, a5, a6, a7, a8, a9, a10, a11, a12, a13, a14, a15]).toList _ (fun j v hv => by rw [Nat.zero_add, hX.cell j]; exact (Array.getElem?_toList ..).symm.trans hv) Try.underlying66 rfl (by kernel_rfl)
theorem alRB (w : World) : (Instr.alloc 66 true (.tuple #[])).run Try.prog w = .ok (.pointer (some ⟨w.heap.size, 0, none⟩)) (w.alloc (.cells (buC 0 (List.replicate 16 0)) 66)) := by kernel_rfl
theorem bdRB (W : World) : (Instr.build 66 #[]).run Try.prog W = .ok (.agg (buC 0 (List.replicate 16 0))) W := by kernel_rfl
set_option maxRecDepth 100000 in
set_option maxHeartbeats 4000000 in
theorem refBu_any (A : Option Addr) (n c : Nat) (l : List Cl) (w : World) (hn : l.length = n) (hr : RdX 4 w.heap.size w A (l.map Cl.cells)) (hm : n ≤ 1000000) (hf : ∀ x, x ∈ l → x.fits) (hg : ∀ x, x ∈ l → x.good = true) : Calls Try.prog 32 #[.slice A n c] w fun e w' => e = .returned (.agg (burlC l)) ∧ Below w.heap.size w w' := by
  obtain ⟨i0, hi0, hz0, hz1, hz2⟩ := info_parts byt_info
  have HN := Lib.hid hn
  have HR := Lib.hid (fun W (h : Below w.heap.size w W) => hr.keep (W' := W) h (Nat.le_refl _))
  clear hn hr
  have hX0 := blk_new w #[.int .u64 0, .int .u64 0, .int .u64 0, .int .u64 0, .int .u64 0, .int .u64 0, .int .u64 0, .int .u64 0, .int .u64 0, .int .u64 0, .int .u64 0, .int .u64 0, .int .u64 0, .int .u64 0, .int .u64 0, .int .u64 0, .int .u64 0] 66
  have hB := b0 w (.cells #[.int .u64 0, .int .u64 0, .int .u64 0, .int .u64 0, .int .u64 0, .int .u64 0, .int .u64 0, .int .u64 0, .int .u64 0, .int .u64 0, .int .u64 0, .int .u64 0, .int .u64 0, .int .u64 0, .int .u64 0, .int .u64 0, .int .u64 0] 66)
  have hzz : (w.alloc (.cells #[.int .u64 0, .int .u64 0, .int .u64 0, .int .u64 0, .int .u64 0, .int .u64 0, .int .u64 0, .int .u64 0, .int .u64 0, .int .u64 0, .int .u64 0, .int .u64 0, .int .u64 0, .int .u64 0, .int .u64 0, .int .u64 0, .int .u64 0] 66)).heap.size = w.heap.size + 1 := by simp
  go_enter Try.func32, Try.ntmps32
  go_upto_region 1 with fail
  generalize (w.alloc (.cells #[.int .u64 0, .int .u64 0, .int .u64 0, .int .u64 0, .int .u64 0, .int .u64 0, .int .u64 0, .int .u64 0, .int .u64 0, .int .u64 0, .int .u64 0, .int .u64 0, .int .u64 0, .int .u64 0, .int .u64 0, .int .u64 0, .int .u64 0] 66)) = W0 at hX0 hB hzz HR ⊢
  generalize hb : w.heap.size = b at hX0 hB hzz HR ⊢
  refine wp_region_lit ?_
  refine fl_start ?_
  generalize ha : Act.mk _ _ = a0
  have hn : a0.tmps.size = 65 := by rw [← ha]; kernel_rfl
  have h2 : (fr a0 []).eval (.tmp 2) = .pointer (some ⟨b, 0, none⟩) := by rw [← ha]; kernel_rfl
  refine fl_know hn rfl h2 ?_
  clear h2
  refine g_bd hn ?_ (qs := #[]) (v := .agg (buC 0 (List.replicate 16 0))) (g := true) (hp := fun _ _ => by simp) (hx := bdRB _)
  refine al_row hn (alRB W0) ?_
  intro q w2 hq hY hB2
  refine g_str hY ?_ (h1 := bu_one _ _)
  intro w3 ho hY3
  refine fl_end ?_
  clear hn
  subst ha
  dsimp only [fr, cnd, Act.put, cond_true]
  simp only [List.setIfInBounds_toArray, List.set_cons_zero, List.set_cons_succ]
  have hZ3 := (hX0.keep hB2).only ho (by have := hX0.lt; omega)
  have hBq : Below b w w3 := (hB.trans (hB2.mono (by omega))).trans (ho.below (by have := hX0.lt; omega))
  have hbq : b < q := by have := hX0.lt; omega
  have hY4 : Blk w3 q (buC 0 (tbl (lvTo l) 0)) 66 := by rw [tbl_zero]; exact hY3
  clear hX0 hB hY hB2 ho hq hY3 hzz
  go_wp2_with fail
  go_loopw [4, 11] (fun b4 i wr => ∃ (j : Nat) (A4 : Option Addr) (n4 c4 : Nat), j ≤ 16 ∧ i = .int .i64 j ∧ b4 = .slice A4 n4 c4 ∧ OwnB (q + 1) wr A4 n4 c4 (rowTo (lvTo l) j) ∧ Blk wr b #[.int .u64 0, .int .u64 0, .int .u64 0, .int .u64 0, .int .u64 0, .int .u64 0, .int .u64 0, .int .u64 0, .int .u64 0, .int .u64 0, .int .u64 0, .int .u64 0, .int .u64 0, .int .u64 0, .int .u64 0, .int .u64 0, .int .u64 0] 66 ∧ Blk wr q (buC 0 (tbl (lvTo l) j)) 66 ∧ Below b w wr) (fun _ i _ => 16 - (intOf i).toNat)
  case atStart => exact ⟨0, none, 0, 0, by omega, rfl, rfl, by rw [rowTo_zero]; exact OwnB.nil _ _, hZ3, hY4, hBq⟩
  case round =>
    clear hZ3 hY4 hBq
    obtain ⟨j, A4, n4, c4, hj, rfl, rfl, hO4, hZ, hY, hB⟩ := hrel
    by_cases hlj : j < 16
    · have i2 : (j : Int) < 16 := by omega
      rw [← tab_zero l hlj] at hY
      go_wp2_with fail
      go_loopw [16] (fun i wr => ∃ (k : Nat), k ≤ n ∧ i = .int .i64 k ∧ OwnB (q + 1) wr A4 n4 c4 (rowTo (lvTo l) j) ∧ Blk wr b #[.int .u64 0, .int .u64 0, .int .u64 0, .int .u64 0, .int .u64 0, .int .u64 0, .int .u64 0, .int .u64 0, .int .u64 0, .int .u64 0, .int .u64 0, .int .u64 0, .int .u64 0, .int .u64 0, .int .u64 0, .int .u64 0, .int .u64 0] 66 ∧ Blk wr q (buC 0 (tab l j k)) 66 ∧ Below b w wr) (fun i _ => n - (intOf i).toNat)
      case atStart => exact ⟨0, Nat.zero_le _, rfl, hO4, hZ, hY, hB⟩
      case round =>
        clear hO4 hZ hY hB
        obtain ⟨k, hk, rfl, hO4, hZ, hY, hB⟩ := hrel
        by_cases hlt : k < n
        · obtain ⟨x, hx⟩ : ∃ x, l[k]? = some x := ⟨_, List.getElem?_eq_getElem (show k < l.length by have := HN.out; omega)⟩
          obtain ⟨ad, rfl, _, hc⟩ := HR.out wr hB k x.cells (by rw [List.getElem?_map, hx]; rfl)
          have i4 : (k : Int) < (n : Int) := by omega
          have i3 : (0 : Int) ≤ (k : Int) := by omega
          have hxf := hf x (List.mem_of_getElem? hx)
          have hxg := hg x (List.mem_of_getElem? hx)
          have c0 : wr.cell? (ad.add (k * 4)) = some (.string x.ky) := (celX hc).1 _ rfl
          clear hc
          go_wp2_with fail
          refine (refLeaf_any x.ky wr (by have := (cl_in hxg).1; omega)).mono ?_
          rintro e w5 ⟨rfl, hb5⟩
          have hO5 := hO4.keep hb5
          have hZ5 := hZ.keep hb5
          have hY5 := hY.keep hb5
          have hB5 : Below b w w5 := hB.trans (hb5.mono (by have := hZ.lt; omega))
          clear hO4 hZ hY hB c0 hb5
          by_cases hlf : leafL x.ky.data.toList = j
          · have hj2 : (((leafL x.ky.data.toList : Nat) : Int) == (j : Int)) = true := by rw [hlf]; simp
            have HE : Hid (tab l j (k + 1) = (tab l j k).set j ((acc l j k + shrC x) % 18446744073709551616)) := by
              show _ = _
              rw [tab_set, ← acc_hit hlj hx hlf]
              rfl
            have HRX : ∀ W, (fun W => (∃ L', Blk W q (buC 0 L') 66) ∧ Below b w W) W → ∀ j v, x.cells[j]? = some v → W.cell? (ad.add (k * 4 + j)) = some v := fun W h => by
              obtain ⟨ad2, e2, _, hc⟩ := HR.out W h.2 k x.cells (by rw [List.getElem?_map, hx]; rfl)
              injection e2 with e2
              subst e2
              exact hc
            have f2 : ∀ W, (fun W => (∃ L', Blk W q (buC 0 L') 66) ∧ Below b w W) W → _ := fun W _ => frb1 W q
            have f5 : ∀ W, (fun W => (∃ L', Blk W q (buC 0 L') 66) ∧ Below b w W) W → _ := fun W _ => ix_bu W q j hlj
            have f6 : ∀ W, (fun W => (∃ L', Blk W q (buC 0 L') 66) ∧ Below b w W) W → _ := fun W _ => cix W ad n c k hlt
            have f7 : ∀ W, (fun W => (∃ L', Blk W q (buC 0 L') 66) ∧ Below b w W) W → _ := fun W h => cld (HRX W h)
            have hS0 : (fun W => (∃ L', Blk W q (buC 0 L') 66) ∧ Below b w W) w5.drew := ⟨⟨_, hY5⟩, hB5.drew⟩
            go_upto_region 10 with fail
            refine fh_start (S := (fun W => (∃ L', Blk W q (buC 0 L') 66) ∧ Below b w W)) (by kernel_rfl) (⟨⟨_, hY5⟩, hB5.drew⟩) (fun hS => ?_)
            generalize ha : Act.mk _ _ = a0
            have hn : a0.tmps.size = 65 := by rw [← ha]; kernel_rfl
            have h0 : (fr a0 []).eval (.tmp 0) = .slice (some ad) n c := by rw [← ha]; kernel_rfl
            refine fh_know hn rfl h0 ?_
            clear h0
            have h3 : (fr a0 [(0, true, .slice (some ad) n c)]).eval (.tmp 3) = .pointer (some ⟨q, 0, none⟩) := by rw [← ha]; kernel_rfl
            refine fh_know hn rfl h3 ?_
            clear h3
            have h5 : (fr a0 [(3, true, .pointer (some ⟨q, 0, none⟩)), (0, true, .slice (some ad) n c)]).eval (.tmp 5) = .int .i64 (j : Int) := by rw [← ha]; kernel_rfl
            refine fh_know hn rfl h5 ?_
            clear h5
            have h6 : (fr a0 [(5, true, .int .i64 (j : Int)), (3, true, .pointer (some ⟨q, 0, none⟩)), (0, true, .slice (some ad) n c)]).eval (.tmp 6) = .int .i64 (k : Int) := by rw [← ha]; kernel_rfl
            refine fh_know hn rfl h6 ?_
            clear h6
            refine h_mv 0 hn hS ?_
            refine h_mv 1 hn hS ?_
            refine h_fd 2 hn hS ?_
            refine h_ix 3 hn hS ?_
            refine h_mv 5 hn hS ?_
            refine h_mv 6 hn hS ?_
            refine h_ix 7 hn hS ?_
            refine h_ld 8 hn hS ?_
            refine h_fd 11 hn hS ?_
            refine fh_two (i := 4) (j := 9) (by kernel_rfl) ?_ ?_
            · refine one_valx (d := 31) (v := .int .u64 (acc l j k : Nat)) (w2 := w5.drew) hn rfl (fun hk => x_ld (lk_at hk (i := 30) rfl (fun _ => rfl) rfl) (ld_u (((show Blk w5.drew q _ _ from hY5).cell _).trans (buC_at _ _ _ _ (tab_get l hlj k))))) hS0 ?_ rfl rfl rfl
              refine fh_callx 9 (d := 36) (R := fun v w2 => v = .int .u64 (shrC x : Nat) ∧ Below w5.heap.size w5 w2) hn rfl (fun hk => call1_is en_spinney_spinneyref28_cell _ _ _ _ _ _ _ _ (.agg x.cells) (lk_at hk (i := 35) rfl (fun _ => rfl) rfl) rfl) ((refCell_any x w5.drew hxg hxf).mono fun _ _ ⟨he, hb2⟩ => ⟨_, he, rfl, bel_un29 hb2⟩) ?_ rfl rfl (by kernel_rfl) rfl
              rintro v v2 ⟨rfl, hb6⟩
              have hY2 := hY5.keep hb6
              have hS2 : (fun W => (∃ L', Blk W q (buC 0 L') 66) ∧ Below b w W) v2 := ⟨⟨_, hY2⟩, hB5.trans (hb6.mono (by have := hB5.size; omega))⟩
              have hY3 := hY2.set (1 + j) (.int .u64 (((acc l j k + shrC x) % 18446744073709551616 : Nat) : Int))
              rw [buC_set] at hY3
              have ho3 := only_cell v2 q (1 + j) (.int .u64 (((acc l j k + shrC x) % 18446744073709551616 : Nat) : Int))
              have hZ3 := (hZ5.keep hb6).only ho3 (by omega)
              have hO3 := (hO5.keep hb6).only28 ho3 (by omega)
              have hB3 := hS2.2.trans (ho3.below (by omega))
              refine ⟨hS2, ?_⟩
              refine h_op 10 hn hS2 (fun W _ hk => x_bn (lk_at hk (i := 31) rfl (fun _ => rfl) rfl) (lk_at hk (i := 36) rfl (fun _ => rfl) rfl) (add_uu _ _ W (acc l j k) (shrC x))) ?_
              refine h_ix 12 hn hS2 ?_
              refine h_st 13 (st_u (j := 1 + j) hY2 (by rw [buC_size, tab_len l (by omega)]; omega) _) ⟨⟨_, hY3⟩, hB3⟩ ?_
              refine fh_end (by kernel_rfl) ?_
              clear hn
              subst ha
              dsimp only [fr, cnd, Act.put, cond_true]
              simp only [List.setIfInBounds_toArray, List.set_cons_zero, List.set_cons_succ]
              have hY4 : Blk (v2.setCell ⟨q, 1 + j, none⟩ (.int .u64 (((acc l j k + shrC x) % 18446744073709551616 : Nat) : Int))) q (buC 0 (tab l j (k + 1))) 66 := by rw [HE.out]; exact hY3
              clear hY3
              go_wp2_with fail
              refine ⟨?_, ?_⟩
              · first
                | exact ⟨k + 1, by omega, by go_num, hO3, hZ3, hY4, hB3⟩
                | repeat apply Exists.intro
                  refine ⟨?_, rfl⟩
                  exact ⟨k + 1, by omega, by go_num, hO3, hZ3, hY4, hB3⟩
              · simp [intOf]; omega
            · refine one_callx29 (d := 36) (R := fun v w2 => v = .int .u64 (shrC x : Nat) ∧ Below w5.heap.size w5 w2) hn rfl (fun hk => call1_is en_spinney_spinneyref28_cell _ _ _ _ _ _ _ _ (.agg x.cells) (lk_at hk (i := 35) rfl (fun _ => rfl) rfl) rfl) ((refCell_any x w5.drew hxg hxf).mono fun _ _ ⟨he, hb2⟩ => ⟨_, he, rfl, bel_un29 hb2⟩) ?_ rfl rfl rfl
              rintro v v2 ⟨rfl, hb6⟩
              have hY2 := hY5.keep hb6
              have hS2 : (fun W => (∃ L', Blk W q (buC 0 L') 66) ∧ Below b w W) v2 := ⟨⟨_, hY2⟩, hB5.trans (hb6.mono (by have := hB5.size; omega))⟩
              have hY3 := hY2.set (1 + j) (.int .u64 (((acc l j k + shrC x) % 18446744073709551616 : Nat) : Int))
              rw [buC_set] at hY3
              have ho3 := only_cell v2 q (1 + j) (.int .u64 (((acc l j k + shrC x) % 18446744073709551616 : Nat) : Int))
              have hZ3 := (hZ5.keep hb6).only ho3 (by omega)
              have hO3 := (hO5.keep hb6).only28 ho3 (by omega)
              have hB3 := hS2.2.trans (ho3.below (by omega))
              refine ⟨hS2, ?_⟩
              refine h_one 4 (v := .int .u64 (acc l j k : Nat)) hn hS2 (fun hk => x_ld (lk_at hk (i := 30) rfl (fun _ => rfl) rfl) (ld_u ((hY2.cell _).trans (buC_at _ _ _ _ (tab_get l hlj k))))) ?_
              refine h_op 10 hn hS2 (fun W _ hk => x_bn (lk_at hk (i := 31) rfl (fun _ => rfl) rfl) (lk_at hk (i := 36) rfl (fun _ => rfl) rfl) (add_uu _ _ W (acc l j k) (shrC x))) ?_
              refine h_ix 12 hn hS2 ?_
              refine h_st 13 (st_u (j := 1 + j) hY2 (by rw [buC_size, tab_len l (by omega)]; omega) _) ⟨⟨_, hY3⟩, hB3⟩ ?_
              refine fh_end (by kernel_rfl) ?_
              clear hn
              subst ha
              dsimp only [fr, cnd, Act.put, cond_true]
              simp only [List.setIfInBounds_toArray, List.set_cons_zero, List.set_cons_succ]
              have hY4 : Blk (v2.setCell ⟨q, 1 + j, none⟩ (.int .u64 (((acc l j k + shrC x) % 18446744073709551616 : Nat) : Int))) q (buC 0 (tab l j (k + 1))) 66 := by rw [HE.out]; exact hY3
              clear hY3
              go_wp2_with fail
              refine ⟨?_, ?_⟩
              · first
                | exact ⟨k + 1, by omega, by go_num, hO3, hZ3, hY4, hB3⟩
                | repeat apply Exists.intro
                  refine ⟨?_, rfl⟩
                  exact ⟨k + 1, by omega, by go_num, hO3, hZ3, hY4, hB3⟩
              · simp [intOf]; omega
          · have hj2 : (((leafL x.ky.data.toList : Nat) : Int) == (j : Int)) = false := by
              have h : ¬ ((leafL x.ky.data.toList : Nat) : Int) = (j : Int) := by omega
              simpa using h
            have HE : tab l j (k + 1) = tab l j k := by unfold tab; rw [acc_miss hx hlf]
            rw [← HE] at hY5
            go_wp2_with fail
            refine ⟨?_, ?_⟩
            · first
              | exact ⟨k + 1, by omega, by go_num, hO5, hZ5, hY5, hB5⟩
              | repeat apply Exists.intro
                refine ⟨?_, rfl⟩
                exact ⟨k + 1, by omega, by go_num, hO5, hZ5, hY5, hB5⟩
            · simp [intOf]; omega
        · have hkn : k = l.length := by have := HN.out; omega
          have i4 : ¬ (k : Int) < (n : Int) := by omega
          rw [hkn, tab_all l hlj] at hY
          have hV := acc_all l hlj
          have hvl := acc_lt l j l.length
          generalize acc l j l.length = v at hV hvl
          have f2 := frb1 wr q
          have f5 := ix_bu wr q j hlj
          have hTg : (tbl (lvTo l) (j + 1))[j]? = some v := by
            unfold tbl
            rw [List.getElem?_append_left (by rw [List.length_take, lvTo_len]; omega), List.getElem?_take_of_lt (by omega)]
            exact hV
          have f6 : (Instr.loadAt 36 (.pointer (some ⟨q, 1 + j, none⟩))).run Try.prog wr = .ok (.int .u64 (v : Int)) wr := ld_u ((hY.cell _).trans (buC_at _ _ _ _ hTg))
          go_upto_region 12 with fail
          refine wp_region_lit ?_
          refine fl_start ?_
          generalize ha : Act.mk _ _ = a0
          have hn : a0.tmps.size = 65 := by rw [← ha]; kernel_rfl
          have h3 : (fr a0 []).eval (.tmp 3) = .pointer (some ⟨q, 0, none⟩) := by rw [← ha]; kernel_rfl
          refine fl_know hn rfl h3 ?_
          clear h3
          have h5 : (fr a0 [(3, true, .pointer (some ⟨q, 0, none⟩))]).eval (.tmp 5) = .int .i64 (j : Int) := by rw [← ha]; kernel_rfl
          refine fl_know hn rfl h5 ?_
          clear h5
          refine g_mv hn ?_
          refine g_fd hn ?_
          refine g_ix hn ?_
          refine g_ld hn ?_
          refine g_as hn ?_
          refine fl_end ?_
          clear hn f2 f5 f6
          subst ha
          dsimp only [fr, cnd, Act.put, cond_true]
          simp only [List.setIfInBounds_toArray, List.set_cons_zero, List.set_cons_succ]
          have HN4 := hO4.len
          rw [rowTo_len (by rw [lvTo_len]; omega)] at HN4
          go_wp2_with fail
          go_loopw [7, 8, 9] (fun n7 e8 i9 wr => ∃ (m : Nat) (A8 : Option Addr) (c8 : Nat), m ≤ 8 ∧ n7 = .int .u64 ((v / 256 ^ m : Nat) : Int) ∧ e8 = .slice A8 m c8 ∧ i9 = .int .i64 m ∧ RdB wr.heap.size wr A8 (wdB m v) ∧ OwnB (q + 1) wr A4 n4 c4 (rowTo (lvTo l) j) ∧ Blk wr b #[.int .u64 0, .int .u64 0, .int .u64 0, .int .u64 0, .int .u64 0, .int .u64 0, .int .u64 0, .int .u64 0, .int .u64 0, .int .u64 0, .int .u64 0, .int .u64 0, .int .u64 0, .int .u64 0, .int .u64 0, .int .u64 0, .int .u64 0] 66 ∧ Blk wr q (buC 0 (tbl (lvTo l) (j + 1))) 66 ∧ Below b w wr) (fun _ _ i _ => 8 - (intOf i).toNat)
          case atStart => exact ⟨0, none, 0, by omega, by simp, rfl, rfl, by rw [wdB_zero]; exact RdB.nil _ _ _, hO4, hZ, hY, hB⟩
          case round =>
            clear hO4 hZ hY hB hlt hk i4
            obtain ⟨m, A8, c8, hm8, rfl, rfl, rfl, hR8, hO4, hZ, hY, hB⟩ := hrel
            by_cases hl8 : m < 8
            · have i5 : (m : Int) < 8 := by omega
              have HQ := Lib.hid (wrap_quo (v := v / 256 ^ m) (n := v) (Nat.div_le_self _ _) hvl)
              have HP : Hid (v / 256 ^ m / 256 = v / 256 ^ (m + 1)) := by show _ = _; rw [Nat.div_div_eq_div_mul, Nat.pow_succ]
              have HC : Hid ([UInt8.ofNat (v / 256 ^ m % 256)] ++ wdB m v = wdB (m + 1) v) := by show _ = _; rw [wdB_cons]; rfl
              have HL := Lib.hid (wdB_len m v)
              generalize v / 256 ^ m = z at HQ HP HC ⊢
              have hown := litB wr (base := wr.heap.size) ((z : Int) % 256) (UInt8.ofNat (z % 256)) (mod_byte z) (Nat.le_refl _)
              have hba := b0 wr (.cells #[.int .u8 ((z : Int) % 256)] 5)
              have hrd := hR8.keep hba (Nat.le_refl _)
              have hsz := hba.size
              go_wp2_with (at_builtin; refine wpList_apB (base := wr.heap.size) (n := 1) (m := m) (l := [UInt8.ofNat (z % 256)]) (l2 := wdB m v) (by rfl) _ _ (by rfl) Try.underlying58 Try.underlying58 hi0 hz0 hz1 hz2 (by rfl) (by rfl) hown hrd HL.out (1 + m) rfl (by omega) hsz ?_; intro A5 c5 w5 hO5 hb5 hg5)
              have hbb := hba.trans hb5
              rw [HC.out] at hO5
              have hB5 : Below b w w5 := hB.trans (hbb.mono (by have := hZ.lt; omega))
              have hO6 := hO4.keep hbb
              have hZ6 := hZ.keep hbb
              have hY6 := hY.keep hbb
              have hm1 : 1 + m = m + 1 := by omega
              rw [hm1] at hO5 ⊢
              refine ⟨?_, ?_⟩
              · first
                | exact ⟨m + 1, A5, c5, by omega, by rw [HQ.out, HP.out], rfl, by go_num, hO5.rd, hO6, hZ6, hY6, hB5⟩
                | repeat apply Exists.intro
                  refine ⟨?_, rfl⟩
                  exact ⟨m + 1, A5, c5, by omega, by rw [HQ.out, HP.out], rfl, by go_num, hO5.rd, hO6, hZ6, hY6, hB5⟩
              · simp [intOf]; omega
            · have hm9 : m = 8 := by omega
              subst hm9
              have HX := Lib.hid (rowTo_next hV)
              have hsz : q + 1 ≤ wr.heap.size := hY.lt
              go_wp2_with (at_builtin; refine wpList_apB (base := q + 1) (n := n4) (m := 8) (l := rowTo (lvTo l) j) (l2 := wdB 8 v) (by rfl) _ _ (by rfl) Try.underlying58 Try.underlying58 hi0 hz0 hz1 hz2 (by rfl) (by rfl) hO4 hR8 (wdB_len _ _) (n4 + 8) rfl (by omega) hsz ?_; intro A5 c5 w5 hO5 hb5 hg5)
              rw [← HX.out] at hO5
              have hZ6 := hZ.keep' hb5 (by omega)
              have hY6 := hY.keep' hb5 (by omega)
              have hB6 : Below b w w5 := hB.trans (hb5.mono (by omega))
              refine ⟨?_, ?_⟩
              · first
                | exact ⟨j + 1, A5, n4 + 8, c5, by omega, by go_num, rfl, hO5, hZ6, hY6, hB6⟩
                | repeat apply Exists.intro
                  refine ⟨?_, rfl⟩
                  exact ⟨j + 1, A5, n4 + 8, c5, by omega, by go_num, rfl, hO5, hZ6, hY6, hB6⟩
              · simp [intOf]; omega
    · have hj16 : j = 16 := by omega
      subst hj16
      have i2 : ¬ ((16 : Nat) : Int) < 16 := by omega
      have i3 : ¬ (16 : Int) < 16 := by omega
      have hLl := lvTo_len l
      rw [tbl_all hLl] at hY
      have hn4 := hO4.len
      rw [rowTo_len (by omega)] at hn4
      have cD := refDig_any A4 n4 c4 (rowTo (lvTo l) 16) wr hO4.len hO4.rd (by omega)
      have f0 := frb0 wr q
      go_upto_region 21 with fail
      refine wp_region_lit ?_
      refine fl_start ?_
      generalize ha : Act.mk _ _ = a0
      have hn : a0.tmps.size = 65 := by rw [← ha]; kernel_rfl
      have h3 : (fr a0 []).eval (.tmp 3) = .pointer (some ⟨q, 0, none⟩) := by rw [← ha]; kernel_rfl
      refine fl_know hn rfl h3 ?_
      clear h3
      have h4 : (fr a0 [(3, true, .pointer (some ⟨q, 0, none⟩))]).eval (.tmp 4) = .slice A4 n4 c4 := by rw [← ha]; kernel_rfl
      refine fl_know hn rfl h4 ?_
      clear h4
      refine g_mv hn ?_
      refine g_c1x en_spinney_spinneyref28_Digest hn (R := fun v w2 => v = .int .u64 (rootL (lvTo l) : Nat) ∧ w2 = wr) (cD.mono fun _ _ ⟨he, hb2⟩ => ⟨_, he, rfl, hb2.symm⟩) ?_
      rintro v w2 ⟨rfl, hw2⟩
      rw [hw2]
      clear hw2
      refine g_fd hn ?_
      refine g_stt hY (hr := st_u (j := 0) hY (by rw [buC_size]; omega) (rootL (lvTo l))) ?_
      intro w3 ho3 hX4
      rw [buC_set0] at hX4
      refine fl_end ?_
      clear hn cD f0
      subst ha
      dsimp only [fr, cnd, Act.put, cond_true]
      simp only [List.setIfInBounds_toArray, List.set_cons_zero, List.set_cons_succ]
      have hX5 := hZ.only ho3 (by omega)
      have l2 := ld_rb hX4 hLl
      have hbs : (burlC l).size = 17 := by unfold burlC; rw [buC_size, hLl]
      go_upto_region 22 with fail
      refine wp_region_lit ?_
      refine fl_start ?_
      generalize ha : Act.mk _ _ = a0
      have hn : a0.tmps.size = 65 := by rw [← ha]; kernel_rfl
      have h2 : (fr a0 []).eval (.tmp 2) = .pointer (some ⟨b, 0, none⟩) := by rw [← ha]; kernel_rfl
      refine fl_know hn rfl h2 ?_
      clear h2
      have h3 : (fr a0 [(2, true, .pointer (some ⟨b, 0, none⟩))]).eval (.tmp 3) = .pointer (some ⟨q, 0, none⟩) := by rw [← ha]; kernel_rfl
      refine fl_know hn rfl h3 ?_
      clear h3
      refine g_ld hn ?_
      refine g_str (c := burlC l) hX5 ?_ (hs := by rw [hbs]; rfl) (hi := by rw [hbs]; kernel_rfl) (h1 := bu_one _ _)
      intro w4 ho4 hX6
      refine fl_end ?_
      clear hn l2
      subst ha
      dsimp only [fr, cnd, Act.put, cond_true]
      simp only [List.setIfInBounds_toArray, List.set_cons_zero, List.set_cons_succ]
      have hB4 := (hB.trans (ho3.below (by omega))).trans (ho4.below (Nat.le_refl _))
      go_wp2_with fail
      refine bodyPost_ret (results_cell_row Try.results32 _ _ (b) 66 (burlC l) (0, 0) _ (by rfl) hX6 Try.underlying66 (by rfl) (by rw [hbs]; kernel_rfl)) rfl ?_
      exact ⟨rfl, by first | exact hB4 | (rw [hb]; exact hB4)⟩
end Go.Proofs.Ytokkmofcijfmiab
