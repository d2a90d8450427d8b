/-
  WHAT IS PROVED: package burl's Change: a leaf's sum with one share taken away and another added, and the root. Conditions: those typed in each theorem.
-/
import Derived.Test.YtokkmofcijfmiabBuF
namespace Go.Proofs.Ytokkmofcijfmiab
open Go.RowKit

theorem en_spinney_burl_Change : ∀ args w, (callFunc 19 args).run Try.prog w = .ok (.enter 19 args) w := enters_of Try.func19 (by kernel_rfl) rfl

/-- The leaves' sums with one share taken away and another added. -/
def chgL' (L : List Nat) (ky : ByteArray) (a1 a2 : Nat) : List Nat := addL L (leafL ky.data.toList) ((a2 + 18446744073709551616 - a1) % 18446744073709551616)
theorem chgL'_len (L : List Nat) (ky : ByteArray) (a1 a2 : Nat) : (chgL' L ky a1 a2).length = L.length := addL_len _ _ _
theorem sub_uu (i j : Nat) (W : World) (x y : Nat) (hx : x < 18446744073709551616) (hy : y < 18446744073709551616) : ((do eqGuard .sub 36 (.tmp i) (.tmp j) (.int .u64 (x : Int)) (.int .u64 (y : Int)); binOp .sub 36 (.int .u64 (x : Int)) (.int .u64 (y : Int))) : Sem Value).run Try.prog W = .ok (.int .u64 (((x + 18446744073709551616 - y) % 18446744073709551616 : Nat) : Int)) W := by
  have e : IntKind.u64.wrap ((x : Int) - (y : Int)) = (((x + 18446744073709551616 - y) % 18446744073709551616 : Nat) : Int) := by
    rw [IntKind.wrap_u64]
    omega
  rw [← e]
  go_simp
set_option maxRecDepth 100000 in
set_option maxHeartbeats 4000000 in
theorem change_any (r : Nat) (L : List Nat) (ky : ByteArray) (k1 x1 k2 x2 : Int) (s1 s2 : ByteArray) (w : World) (hl : L.length = 16) (hL : ∀ x, x ∈ L → x < 18446744073709551616) (hky : ky.size ≤ 1000) (g1 : goodB k1 x1 s1 = true) (g10 : -9223372036854775808 ≤ x1) (g11 : x1 ≤ 9223372036854775807) (g2 : goodB k2 x2 s2 = true) (g20 : -9223372036854775808 ≤ x2) (g21 : x2 ≤ 9223372036854775807) : Calls Try.prog 19 #[.agg (buC r L), .string ky, .agg #[.int .i64 k1, .int .i64 x1, .string s1], .agg #[.int .i64 k2, .int .i64 x2, .string s2]] w fun e w' => e = .returned (.agg (buC (rootL (chgL' L ky (shr28 ky k1 x1 s1) (shr28 ky k2 x2 s2))) (chgL' L ky (shr28 ky k1 x1 s1) (shr28 ky k2 x2 s2)))) ∧ Below w.heap.size w w' := by
  have hLl : (chgL' L ky (shr28 ky k1 x1 s1) (shr28 ky k2 x2 s2)).length = 16 := by rw [chgL'_len, hl]
  have hLL : ∀ x, x ∈ chgL' L ky (shr28 ky k1 x1 s1) (shr28 ky k2 x2 s2) → x < 18446744073709551616 := addL_lt hL _ _
  obtain ⟨y, hy⟩ := at16 hl (leafL_lt ky.data.toList)
  have HE : Hid (chgL' L ky (shr28 ky k1 x1 s1) (shr28 ky k2 x2 s2) = L.set (leafL ky.data.toList) ((y + (((shr28 ky k2 x2 s2) + 18446744073709551616 - (shr28 ky k1 x1 s1)) % 18446744073709551616)) % 18446744073709551616)) := by
    show _ = _
    unfold chgL' addL
    rw [List.getD_eq_getElem?_getD, hy]
    rfl
  have hX0 := blk_new w (buC r L) 39
  replace hX0 := hX0.alloc (.cells #[.int .i64 k1, .int .i64 x1, .string s1] 31)
  replace hX0 := hX0.alloc (.cells #[.int .i64 k2, .int .i64 x2, .string s2] 31)
  replace hX0 := hX0.alloc (.cells #[.int .u64 0, .int .u64 0, .int .u64 0, .int .u64 0, .int .u64 0, .int .u64 0, .int .u64 0, .int .u64 0, .int .u64 0, .int .u64 0, .int .u64 0, .int .u64 0, .int .u64 0, .int .u64 0, .int .u64 0, .int .u64 0, .int .u64 0] 39)
  have hz1 : (w.alloc (.cells (buC r L) 39)).heap.size = w.heap.size + 1 := by simp
  have hX1 := blk_new (w.alloc (.cells (buC r L) 39)) #[.int .i64 k1, .int .i64 x1, .string s1] 31
  rw [hz1] at hX1
  replace hX1 := hX1.alloc (.cells #[.int .i64 k2, .int .i64 x2, .string s2] 31)
  replace hX1 := hX1.alloc (.cells #[.int .u64 0, .int .u64 0, .int .u64 0, .int .u64 0, .int .u64 0, .int .u64 0, .int .u64 0, .int .u64 0, .int .u64 0, .int .u64 0, .int .u64 0, .int .u64 0, .int .u64 0, .int .u64 0, .int .u64 0, .int .u64 0, .int .u64 0] 39)
  have hz2 : ((w.alloc (.cells (buC r L) 39)).alloc (.cells #[.int .i64 k1, .int .i64 x1, .string s1] 31)).heap.size = w.heap.size + 2 := by simp
  have hX2 := blk_new ((w.alloc (.cells (buC r L) 39)).alloc (.cells #[.int .i64 k1, .int .i64 x1, .string s1] 31)) #[.int .i64 k2, .int .i64 x2, .string s2] 31
  rw [hz2] at hX2
  replace hX2 := hX2.alloc (.cells #[.int .u64 0, .int .u64 0, .int .u64 0, .int .u64 0, .int .u64 0, .int .u64 0, .int .u64 0, .int .u64 0, .int .u64 0, .int .u64 0, .int .u64 0, .int .u64 0, .int .u64 0, .int .u64 0, .int .u64 0, .int .u64 0, .int .u64 0] 39)
  have hz3 : (((w.alloc (.cells (buC r L) 39)).alloc (.cells #[.int .i64 k1, .int .i64 x1, .string s1] 31)).alloc (.cells #[.int .i64 k2, .int .i64 x2, .string s2] 31)).heap.size = w.heap.size + 3 := by simp
  have hX3 := blk_new (((w.alloc (.cells (buC r L) 39)).alloc (.cells #[.int .i64 k1, .int .i64 x1, .string s1] 31)).alloc (.cells #[.int .i64 k2, .int .i64 x2, .string s2] 31)) #[.int .u64 0, .int .u64 0, .int .u64 0, .int .u64 0, .int .u64 0, .int .u64 0, .int .u64 0, .int .u64 0, .int .u64 0, .int .u64 0, .int .u64 0, .int .u64 0, .int .u64 0, .int .u64 0, .int .u64 0, .int .u64 0, .int .u64 0] 39
  rw [hz3] at hX3
  have hB := ba (ba (ba (b0 w (.cells (buC r L) 39)) (.cells #[.int .i64 k1, .int .i64 x1, .string s1] 31)) (.cells #[.int .i64 k2, .int .i64 x2, .string s2] 31)) (.cells #[.int .u64 0, .int .u64 0, .int .u64 0, .int .u64 0, .int .u64 0, .int .u64 0, .int .u64 0, .int .u64 0, .int .u64 0, .int .u64 0, .int .u64 0, .int .u64 0, .int .u64 0, .int .u64 0, .int .u64 0, .int .u64 0, .int .u64 0] 39)
  have hzz : ((((w.alloc (.cells (buC r L) 39)).alloc (.cells #[.int .i64 k1, .int .i64 x1, .string s1] 31)).alloc (.cells #[.int .i64 k2, .int .i64 x2, .string s2] 31)).alloc (.cells #[.int .u64 0, .int .u64 0, .int .u64 0, .int .u64 0, .int .u64 0, .int .u64 0, .int .u64 0, .int .u64 0, .int .u64 0, .int .u64 0, .int .u64 0, .int .u64 0, .int .u64 0, .int .u64 0, .int .u64 0, .int .u64 0, .int .u64 0] 39)).heap.size = w.heap.size + 4 := by simp
  go_enter Try.func19, Try.ntmps19
  go_upto_region 1 with fail
  generalize ((((w.alloc (.cells (buC r L) 39)).alloc (.cells #[.int .i64 k1, .int .i64 x1, .string s1] 31)).alloc (.cells #[.int .i64 k2, .int .i64 x2, .string s2] 31)).alloc (.cells #[.int .u64 0, .int .u64 0, .int .u64 0, .int .u64 0, .int .u64 0, .int .u64 0, .int .u64 0, .int .u64 0, .int .u64 0, .int .u64 0, .int .u64 0, .int .u64 0, .int .u64 0, .int .u64 0, .int .u64 0, .int .u64 0, .int .u64 0] 39)) = W0 at hX0 hX1 hX2 hX3 hB hzz ⊢
  (try simp only [hz1, hz2, hz3])
  clear hz1 hz2 hz3
  generalize hb : w.heap.size = b at hX0 hX1 hX2 hX3 hB hzz ⊢
  have f2 : ∀ W, (fun W => (∃ cs, Blk W b cs 39) ∧ Blk W (b + 1) #[.int .i64 k1, .int .i64 x1, .string s1] 31 ∧ Blk W (b + 2) #[.int .i64 k2, .int .i64 x2, .string s2] 31) W → _ := fun W _ => fbu1 W b
  have f3 : ∀ W, (fun W => (∃ cs, Blk W b cs 39) ∧ Blk W (b + 1) #[.int .i64 k1, .int .i64 x1, .string s1] 31 ∧ Blk W (b + 2) #[.int .i64 k2, .int .i64 x2, .string s2] 31) W → _ := fun W h => vld (o := 0) (h.2.1.cell 0) (h.2.1.cell 1) (h.2.1.cell 2)
  have f4 : ∀ W, (fun W => (∃ cs, Blk W b cs 39) ∧ Blk W (b + 1) #[.int .i64 k1, .int .i64 x1, .string s1] 31 ∧ Blk W (b + 2) #[.int .i64 k2, .int .i64 x2, .string s2] 31) W → _ := fun W h => vld (o := 0) (h.2.2.cell 0) (h.2.2.cell 1) (h.2.2.cell 2)
  have f5 : ∀ W, (fun W => (∃ cs, Blk W b cs 39) ∧ Blk W (b + 1) #[.int .i64 k1, .int .i64 x1, .string s1] 31 ∧ Blk W (b + 2) #[.int .i64 k2, .int .i64 x2, .string s2] 31) W → _ := fun W _ => ix_bu W b (leafL ky.data.toList) (leafL_lt _)
  refine fh_start (S := (fun W => (∃ cs, Blk W b cs 39) ∧ Blk W (b + 1) #[.int .i64 k1, .int .i64 x1, .string s1] 31 ∧ Blk W (b + 2) #[.int .i64 k2, .int .i64 x2, .string s2] 31)) (by kernel_rfl) (⟨⟨_, hX0⟩, hX1, hX2⟩) (fun hS => ?_)
  generalize ha : Act.mk _ _ = a0
  have hn : a0.tmps.size = 26 := by rw [← ha]; kernel_rfl
  have h1 : (fr a0 []).eval (.tmp 1) = .string ky := by rw [← ha]; kernel_rfl
  refine fh_know hn rfl h1 ?_
  clear h1
  have h4 : (fr a0 [(1, true, .string ky)]).eval (.tmp 4) = .pointer (some ⟨b, 0, none⟩) := by rw [← ha]; kernel_rfl
  refine fh_know hn rfl h4 ?_
  clear h4
  have h6 : (fr a0 [(4, true, .pointer (some ⟨b, 0, none⟩)), (1, true, .string ky)]).eval (.tmp 6) = .pointer (some ⟨b + 1, 0, none⟩) := by rw [← ha]; kernel_rfl
  refine fh_know hn rfl h6 ?_
  clear h6
  have h7 : (fr a0 [(6, true, .pointer (some ⟨b + 1, 0, none⟩)), (4, true, .pointer (some ⟨b, 0, none⟩)), (1, true, .string ky)]).eval (.tmp 7) = .pointer (some ⟨b + 2, 0, none⟩) := by rw [← ha]; kernel_rfl
  refine fh_know hn rfl h7 ?_
  clear h7
  refine h_mv 0 hn hS ?_
  refine h_fd 2 hn hS ?_
  refine h_mv 5 hn hS ?_
  refine h_ld 6 hn hS ?_
  refine h_mv 8 hn hS ?_
  refine h_ld 9 hn hS ?_
  refine h_fd 13 hn hS ?_
  refine fh_callx 1 (d := 10) (R := fun v w2 => v = .int .i64 (leafL ky.data.toList : Nat) ∧ Below W0.drew.heap.size W0.drew w2) hn rfl (fun hk => call1_is en_spinney_burl_Leaf _ _ _ _ _ _ _ _ (.string ky) (lk_at hk (i := 9) rfl (fun _ => rfl) rfl) rfl) ((leaf_any ky _ (by omega)).mono fun _ _ ⟨he, hb2⟩ => ⟨_, he, rfl, hb2⟩) ?_ rfl rfl (by kernel_rfl) rfl
  rintro v v1 ⟨rfl, hb1⟩
  replace hb1 := bel_un29 hb1
  have hXn := hX0.keep hb1
  have hP1 := hX1.keep hb1
  have hQ1 := hX2.keep hb1
  have hR1 := hX3.keep hb1
  have hS1 : (fun W => (∃ cs, Blk W b cs 39) ∧ Blk W (b + 1) #[.int .i64 k1, .int .i64 x1, .string s1] 31 ∧ Blk W (b + 2) #[.int .i64 k2, .int .i64 x2, .string s2] 31) v1 := ⟨⟨_, hXn⟩, hP1, hQ1⟩
  have hB1 : Below b w v1 := hB.trans (hb1.mono (show b ≤ W0.drew.heap.size from Nat.le_of_lt hX0.lt))
  clear hX1 hX2 hX3 hX0 hS hB
  have hX1 := hXn
  clear hXn
  refine ⟨hS1, ?_⟩
  refine h_ix 3 hn hS1 ?_
  refine fh_two (i := 4) (j := 7) (by kernel_rfl) ?_ ?_
  · refine one_valx (d := 13) (v := .int .u64 (y : Int)) (w2 := v1) hn rfl (fun hk => x_ld (lk_at hk (i := 12) rfl (fun _ => rfl) rfl) (ld_u ((hX1.cell _).trans (buC_at _ _ _ _ hy)))) hS1 ?_ rfl rfl rfl
    refine fh_callx 7 (d := 16) (R := fun v w2 => v = .int .u64 ((shr28 ky k2 x2 s2 : Nat) : Int) ∧ Below v1.heap.size v1 w2) hn rfl (fun hk => call2_is en_spinney_burl_share _ _ _ _ _ _ _ _ _ (.string ky) (.agg #[.int .i64 k2, .int .i64 x2, .string s2]) (lk_at hk (i := 14) rfl (fun _ => rfl) rfl) (lk_at hk (i := 15) rfl (fun _ => rfl) rfl) rfl) ((share_any ky k2 x2 s2 v1 hky g2 g20 g21).mono fun _ _ ⟨he, hb2⟩ => ⟨_, he, rfl, hb2⟩) ?_ rfl rfl (by kernel_rfl) rfl
    rintro v v2 ⟨rfl, hb2⟩
    have hX2 := hX1.keep hb2
    have hP2 := hP1.keep hb2
    have hQ2 := hQ1.keep hb2
    have hR2 := hR1.keep hb2
    have hS2 : (fun W => (∃ cs, Blk W b cs 39) ∧ Blk W (b + 1) #[.int .i64 k1, .int .i64 x1, .string s1] 31 ∧ Blk W (b + 2) #[.int .i64 k2, .int .i64 x2, .string s2] 31) v2 := ⟨⟨_, hX2⟩, hP2, hQ2⟩
    have hB2 : Below b w v2 := hB1.trans (hb2.mono (by have := hX1.lt; omega))
    refine ⟨hS2, ?_⟩
    refine fh_callx 10 (d := 19) (R := fun v w2 => v = .int .u64 ((shr28 ky k1 x1 s1 : Nat) : Int) ∧ Below v2.heap.size v2 w2) hn rfl (fun hk => call2_is en_spinney_burl_share _ _ _ _ _ _ _ _ _ (.string ky) (.agg #[.int .i64 k1, .int .i64 x1, .string s1]) (lk_at hk (i := 17) rfl (fun _ => rfl) rfl) (lk_at hk (i := 18) rfl (fun _ => rfl) rfl) rfl) ((share_any ky k1 x1 s1 v2 hky g1 g10 g11).mono fun _ _ ⟨he, hb2⟩ => ⟨_, he, rfl, hb2⟩) ?_ rfl rfl (by kernel_rfl) rfl
    rintro v v3 ⟨rfl, hb3⟩
    have hX3 := hX2.keep hb3
    have hP3 := hP2.keep hb3
    have hQ3 := hQ2.keep hb3
    have hR3 := hR2.keep hb3
    have hS3 : (fun W => (∃ cs, Blk W b cs 39) ∧ Blk W (b + 1) #[.int .i64 k1, .int .i64 x1, .string s1] 31 ∧ Blk W (b + 2) #[.int .i64 k2, .int .i64 x2, .string s2] 31) v3 := ⟨⟨_, hX3⟩, hP3, hQ3⟩
    have hB3 : Below b w v3 := hB2.trans (hb3.mono (by have := hX2.lt; omega))
    refine ⟨hS3, ?_⟩
    have hX4' := hX3.set (1 + (leafL ky.data.toList)) (.int .u64 (((y + (((shr28 ky k2 x2 s2) + 18446744073709551616 - (shr28 ky k1 x1 s1)) % 18446744073709551616)) % 18446744073709551616 : Nat) : Int))
    have hX4 := hX4'
    rw [buC_set] at hX4
    clear hX4'
    have ho4 := only_cell v3 b (1 + (leafL ky.data.toList)) (.int .u64 (((y + (((shr28 ky k2 x2 s2) + 18446744073709551616 - (shr28 ky k1 x1 s1)) % 18446744073709551616)) % 18446744073709551616 : Nat) : Int))
    refine h_op 11 hn hS3 (fun W _ hk => x_bn (lk_at hk (i := 16) rfl (fun _ => rfl) rfl) (lk_at hk (i := 19) rfl (fun _ => rfl) rfl) (sub_uu _ _ W (shr28 ky k2 x2 s2) (shr28 ky k1 x1 s1) (shr28_lt _ _ _ _) (shr28_lt _ _ _ _))) ?_
    refine h_op 12 hn hS3 (fun W _ hk => x_bn (lk_at hk (i := 13) rfl (fun _ => rfl) rfl) (lk_at hk (i := 20) rfl (fun _ => rfl) rfl) (add_uu _ _ W y (((shr28 ky k2 x2 s2) + 18446744073709551616 - (shr28 ky k1 x1 s1)) % 18446744073709551616))) ?_
    refine h_ix 14 hn hS3 ?_
    refine h_st 15 (st_u (j := 1 + (leafL ky.data.toList)) hX3 (by rw [buC_size, hl]; have := leafL_lt ky.data.toList; omega) _) ⟨⟨_, hX4⟩, hS3.2.1.only ho4 (by omega), hS3.2.2.only ho4 (by omega)⟩ ?_
    refine fh_end (by kernel_rfl) ?_
    clear hn
    subst ha
    dsimp only [fr, cnd, Act.put, cond_true]
    simp only [List.setIfInBounds_toArray, List.set_cons_zero, List.set_cons_succ]
    have hX5 : Blk (v3.setCell ⟨b, 1 + (leafL ky.data.toList), none⟩ (.int .u64 (((y + (((shr28 ky k2 x2 s2) + 18446744073709551616 - (shr28 ky k1 x1 s1)) % 18446744073709551616)) % 18446744073709551616 : Nat) : Int))) b (buC r (chgL' L ky (shr28 ky k1 x1 s1) (shr28 ky k2 x2 s2))) 39 := by rw [HE.out]; exact hX4
    have hR5 := hR3.only ho4 (by omega)
    have hB5 := hB3.trans (ho4.below (Nat.le_refl _))
    clear hX4 ho4 hR3 hB3 hX3 hS3 hP3 hQ3 HE
    generalize v3.setCell ⟨b, 1 + (leafL ky.data.toList), none⟩ (.int .u64 (((y + (((shr28 ky k2 x2 s2) + 18446744073709551616 - (shr28 ky k1 x1 s1)) % 18446744073709551616)) % 18446744073709551616 : Nat) : Int)) = v5 at hX5 hR5 hB5 ⊢
    have l1 := ld_bu hX5 hLl
    have cR := rooted_any r _ v5 hLl hLL
    go_upto_region 2 with fail
    refine wp_region_lit ?_
    refine fl_start ?_
    generalize ha : Act.mk _ _ = a0
    have hn : a0.tmps.size = 26 := by rw [← ha]; kernel_rfl
    have h4 : (fr a0 []).eval (.tmp 4) = .pointer (some ⟨b, 0, none⟩) := by rw [← ha]; kernel_rfl
    refine fl_know hn rfl h4 ?_
    clear h4
    have h8 : (fr a0 [(4, true, .pointer (some ⟨b, 0, none⟩))]).eval (.tmp 8) = .pointer (some ⟨b + 3, 0, none⟩) := by rw [← ha]; kernel_rfl
    refine fl_know hn rfl h8 ?_
    clear h8
    refine g_ld hn ?_
    refine g_c1x en_spinney_burl_rooted hn (R := fun v w2 => v = .agg (buC (rootL (chgL' L ky (shr28 ky k1 x1 s1) (shr28 ky k2 x2 s2))) (chgL' L ky (shr28 ky k1 x1 s1) (shr28 ky k2 x2 s2))) ∧ Below v5.heap.size v5 w2) (cR.mono fun _ _ ⟨he, hb2⟩ => ⟨_, he, rfl, hb2⟩) ?_
    rintro v v6 ⟨rfl, hb6⟩
    have hR6 := hR5.keep hb6
    have hbs : (buC (rootL (chgL' L ky (shr28 ky k1 x1 s1) (shr28 ky k2 x2 s2))) (chgL' L ky (shr28 ky k1 x1 s1) (shr28 ky k2 x2 s2))).size = 17 := by rw [buC_size, hLl]
    refine g_str (c := (buC (rootL (chgL' L ky (shr28 ky k1 x1 s1) (shr28 ky k2 x2 s2))) (chgL' L ky (shr28 ky k1 x1 s1) (shr28 ky k2 x2 s2)))) hR6 ?_ (hs := by rw [hbs]; rfl) (hi := by rw [hbs]; kernel_rfl) (h1 := bu_one _ _)
    intro v7 ho7 hX7
    refine fl_end ?_
    clear hn l1 cR
    subst ha
    dsimp only [fr, cnd, Act.put, cond_true]
    simp only [List.setIfInBounds_toArray, List.set_cons_zero, List.set_cons_succ]
    have hB7 := (hB5.trans (hb6.mono (by have := hR5.lt; omega))).trans (ho7.below (by omega))
    go_wp2_with fail
    refine bodyPost_ret (results_cell_row Try.results19 _ _ (b + 3) 39 (buC (rootL (chgL' L ky (shr28 ky k1 x1 s1) (shr28 ky k2 x2 s2))) (chgL' L ky (shr28 ky k1 x1 s1) (shr28 ky k2 x2 s2))) (0, 0) _ (by rfl) hX7 Try.underlying39 (by rfl) (by rw [hbs]; kernel_rfl)) rfl ?_
    exact ⟨rfl, by first | exact hB7 | (rw [hb]; exact hB7)⟩
  · refine one_callx29 (d := 16) (R := fun v w2 => v = .int .u64 ((shr28 ky k2 x2 s2 : Nat) : Int) ∧ Below v1.heap.size v1 w2) hn rfl (fun hk => call2_is en_spinney_burl_share _ _ _ _ _ _ _ _ _ (.string ky) (.agg #[.int .i64 k2, .int .i64 x2, .string s2]) (lk_at hk (i := 14) rfl (fun _ => rfl) rfl) (lk_at hk (i := 15) rfl (fun _ => rfl) rfl) rfl) ((share_any ky k2 x2 s2 v1 hky g2 g20 g21).mono fun _ _ ⟨he, hb2⟩ => ⟨_, he, rfl, hb2⟩) ?_ rfl rfl rfl
    rintro v v2 ⟨rfl, hb2⟩
    have hX2 := hX1.keep hb2
    have hP2 := hP1.keep hb2
    have hQ2 := hQ1.keep hb2
    have hR2 := hR1.keep hb2
    have hS2 : (fun W => (∃ cs, Blk W b cs 39) ∧ Blk W (b + 1) #[.int .i64 k1, .int .i64 x1, .string s1] 31 ∧ Blk W (b + 2) #[.int .i64 k2, .int .i64 x2, .string s2] 31) v2 := ⟨⟨_, hX2⟩, hP2, hQ2⟩
    have hB2 : Below b w v2 := hB1.trans (hb2.mono (by have := hX1.lt; omega))
    refine ⟨hS2, ?_⟩
    refine fh_two (i := 4) (j := 10) (by kernel_rfl) ?_ ?_
    · refine one_valx (d := 13) (v := .int .u64 (y : Int)) (w2 := v2) hn rfl (fun hk => x_ld (lk_at hk (i := 12) rfl (fun _ => rfl) rfl) (ld_u ((hX2.cell _).trans (buC_at _ _ _ _ hy)))) hS2 ?_ rfl rfl rfl
      refine fh_callx 10 (d := 19) (R := fun v w2 => v = .int .u64 ((shr28 ky k1 x1 s1 : Nat) : Int) ∧ Below v2.heap.size v2 w2) hn rfl (fun hk => call2_is en_spinney_burl_share _ _ _ _ _ _ _ _ _ (.string ky) (.agg #[.int .i64 k1, .int .i64 x1, .string s1]) (lk_at hk (i := 17) rfl (fun _ => rfl) rfl) (lk_at hk (i := 18) rfl (fun _ => rfl) rfl) rfl) ((share_any ky k1 x1 s1 v2 hky g1 g10 g11).mono fun _ _ ⟨he, hb2⟩ => ⟨_, he, rfl, hb2⟩) ?_ rfl rfl (by kernel_rfl) rfl
      rintro v v3 ⟨rfl, hb3⟩
      have hX3 := hX2.keep hb3
      have hP3 := hP2.keep hb3
      have hQ3 := hQ2.keep hb3
      have hR3 := hR2.keep hb3
      have hS3 : (fun W => (∃ cs, Blk W b cs 39) ∧ Blk W (b + 1) #[.int .i64 k1, .int .i64 x1, .string s1] 31 ∧ Blk W (b + 2) #[.int .i64 k2, .int .i64 x2, .string s2] 31) v3 := ⟨⟨_, hX3⟩, hP3, hQ3⟩
      have hB3 : Below b w v3 := hB2.trans (hb3.mono (by have := hX2.lt; omega))
      refine ⟨hS3, ?_⟩
      have hX4' := hX3.set (1 + (leafL ky.data.toList)) (.int .u64 (((y + (((shr28 ky k2 x2 s2) + 18446744073709551616 - (shr28 ky k1 x1 s1)) % 18446744073709551616)) % 18446744073709551616 : Nat) : Int))
      have hX4 := hX4'
      rw [buC_set] at hX4
      clear hX4'
      have ho4 := only_cell v3 b (1 + (leafL ky.data.toList)) (.int .u64 (((y + (((shr28 ky k2 x2 s2) + 18446744073709551616 - (shr28 ky k1 x1 s1)) % 18446744073709551616)) % 18446744073709551616 : Nat) : Int))
      refine h_op 11 hn hS3 (fun W _ hk => x_bn (lk_at hk (i := 16) rfl (fun _ => rfl) rfl) (lk_at hk (i := 19) rfl (fun _ => rfl) rfl) (sub_uu _ _ W (shr28 ky k2 x2 s2) (shr28 ky k1 x1 s1) (shr28_lt _ _ _ _) (shr28_lt _ _ _ _))) ?_
      refine h_op 12 hn hS3 (fun W _ hk => x_bn (lk_at hk (i := 13) rfl (fun _ => rfl) rfl) (lk_at hk (i := 20) rfl (fun _ => rfl) rfl) (add_uu _ _ W y (((shr28 ky k2 x2 s2) + 18446744073709551616 - (shr28 ky k1 x1 s1)) % 18446744073709551616))) ?_
      refine h_ix 14 hn hS3 ?_
      refine h_st 15 (st_u (j := 1 + (leafL ky.data.toList)) hX3 (by rw [buC_size, hl]; have := leafL_lt ky.data.toList; omega) _) ⟨⟨_, hX4⟩, hS3.2.1.only ho4 (by omega), hS3.2.2.only ho4 (by omega)⟩ ?_
      refine fh_end (by kernel_rfl) ?_
      clear hn
      subst ha
      dsimp only [fr, cnd, Act.put, cond_true]
      simp only [List.setIfInBounds_toArray, List.set_cons_zero, List.set_cons_succ]
      have hX5 : Blk (v3.setCell ⟨b, 1 + (leafL ky.data.toList), none⟩ (.int .u64 (((y + (((shr28 ky k2 x2 s2) + 18446744073709551616 - (shr28 ky k1 x1 s1)) % 18446744073709551616)) % 18446744073709551616 : Nat) : Int))) b (buC r (chgL' L ky (shr28 ky k1 x1 s1) (shr28 ky k2 x2 s2))) 39 := by rw [HE.out]; exact hX4
      have hR5 := hR3.only ho4 (by omega)
      have hB5 := hB3.trans (ho4.below (Nat.le_refl _))
      clear hX4 ho4 hR3 hB3 hX3 hS3 hP3 hQ3 HE
      generalize v3.setCell ⟨b, 1 + (leafL ky.data.toList), none⟩ (.int .u64 (((y + (((shr28 ky k2 x2 s2) + 18446744073709551616 - (shr28 ky k1 x1 s1)) % 18446744073709551616)) % 18446744073709551616 : Nat) : Int)) = v5 at hX5 hR5 hB5 ⊢
      have l1 := ld_bu hX5 hLl
      have cR := rooted_any r _ v5 hLl hLL
      go_upto_region 2 with fail
      refine wp_region_lit ?_
      refine fl_start ?_
      generalize ha : Act.mk _ _ = a0
      have hn : a0.tmps.size = 26 := by rw [← ha]; kernel_rfl
      have h4 : (fr a0 []).eval (.tmp 4) = .pointer (some ⟨b, 0, none⟩) := by rw [← ha]; kernel_rfl
      refine fl_know hn rfl h4 ?_
      clear h4
      have h8 : (fr a0 [(4, true, .pointer (some ⟨b, 0, none⟩))]).eval (.tmp 8) = .pointer (some ⟨b + 3, 0, none⟩) := by rw [← ha]; kernel_rfl
      refine fl_know hn rfl h8 ?_
      clear h8
      refine g_ld hn ?_
      refine g_c1x en_spinney_burl_rooted hn (R := fun v w2 => v = .agg (buC (rootL (chgL' L ky (shr28 ky k1 x1 s1) (shr28 ky k2 x2 s2))) (chgL' L ky (shr28 ky k1 x1 s1) (shr28 ky k2 x2 s2))) ∧ Below v5.heap.size v5 w2) (cR.mono fun _ _ ⟨he, hb2⟩ => ⟨_, he, rfl, hb2⟩) ?_
      rintro v v6 ⟨rfl, hb6⟩
      have hR6 := hR5.keep hb6
      have hbs : (buC (rootL (chgL' L ky (shr28 ky k1 x1 s1) (shr28 ky k2 x2 s2))) (chgL' L ky (shr28 ky k1 x1 s1) (shr28 ky k2 x2 s2))).size = 17 := by rw [buC_size, hLl]
      refine g_str (c := (buC (rootL (chgL' L ky (shr28 ky k1 x1 s1) (shr28 ky k2 x2 s2))) (chgL' L ky (shr28 ky k1 x1 s1) (shr28 ky k2 x2 s2)))) hR6 ?_ (hs := by rw [hbs]; rfl) (hi := by rw [hbs]; kernel_rfl) (h1 := bu_one _ _)
      intro v7 ho7 hX7
      refine fl_end ?_
      clear hn l1 cR
      subst ha
      dsimp only [fr, cnd, Act.put, cond_true]
      simp only [List.setIfInBounds_toArray, List.set_cons_zero, List.set_cons_succ]
      have hB7 := (hB5.trans (hb6.mono (by have := hR5.lt; omega))).trans (ho7.below (by omega))
      go_wp2_with fail
      refine bodyPost_ret (results_cell_row Try.results19 _ _ (b + 3) 39 (buC (rootL (chgL' L ky (shr28 ky k1 x1 s1) (shr28 ky k2 x2 s2))) (chgL' L ky (shr28 ky k1 x1 s1) (shr28 ky k2 x2 s2))) (0, 0) _ (by rfl) hX7 Try.underlying39 (by rfl) (by rw [hbs]; kernel_rfl)) rfl ?_
      exact ⟨rfl, by first | exact hB7 | (rw [hb]; exact hB7)⟩
    · refine one_callx29 (d := 19) (R := fun v w2 => v = .int .u64 ((shr28 ky k1 x1 s1 : Nat) : Int) ∧ Below v2.heap.size v2 w2) hn rfl (fun hk => call2_is en_spinney_burl_share _ _ _ _ _ _ _ _ _ (.string ky) (.agg #[.int .i64 k1, .int .i64 x1, .string s1]) (lk_at hk (i := 17) rfl (fun _ => rfl) rfl) (lk_at hk (i := 18) rfl (fun _ => rfl) rfl) rfl) ((share_any ky k1 x1 s1 v2 hky g1 g10 g11).mono fun _ _ ⟨he, hb2⟩ => ⟨_, he, rfl, hb2⟩) ?_ rfl rfl rfl
      rintro v v3 ⟨rfl, hb3⟩
      have hX3 := hX2.keep hb3
      have hP3 := hP2.keep hb3
      have hQ3 := hQ2.keep hb3
      have hR3 := hR2.keep hb3
      have hS3 : (fun W => (∃ cs, Blk W b cs 39) ∧ Blk W (b + 1) #[.int .i64 k1, .int .i64 x1, .string s1] 31 ∧ Blk W (b + 2) #[.int .i64 k2, .int .i64 x2, .string s2] 31) v3 := ⟨⟨_, hX3⟩, hP3, hQ3⟩
      have hB3 : Below b w v3 := hB2.trans (hb3.mono (by have := hX2.lt; omega))
      refine ⟨hS3, ?_⟩
      have hX4' := hX3.set (1 + (leafL ky.data.toList)) (.int .u64 (((y + (((shr28 ky k2 x2 s2) + 18446744073709551616 - (shr28 ky k1 x1 s1)) % 18446744073709551616)) % 18446744073709551616 : Nat) : Int))
      have hX4 := hX4'
      rw [buC_set] at hX4
      clear hX4'
      have ho4 := only_cell v3 b (1 + (leafL ky.data.toList)) (.int .u64 (((y + (((shr28 ky k2 x2 s2) + 18446744073709551616 - (shr28 ky k1 x1 s1)) % 18446744073709551616)) % 18446744073709551616 : Nat) : Int))
      refine h_op 11 hn hS3 (fun W _ hk => x_bn (lk_at hk (i := 16) rfl (fun _ => rfl) rfl) (lk_at hk (i := 19) rfl (fun _ => rfl) rfl) (sub_uu _ _ W (shr28 ky k2 x2 s2) (shr28 ky k1 x1 s1) (shr28_lt _ _ _ _) (shr28_lt _ _ _ _))) ?_
      refine h_one 4 (v := .int .u64 (y : Int)) hn hS3 (fun hk => x_ld (lk_at hk (i := 12) rfl (fun _ => rfl) rfl) (ld_u ((hX3.cell _).trans (buC_at _ _ _ _ hy)))) ?_
      refine h_op 12 hn hS3 (fun W _ hk => x_bn (lk_at hk (i := 13) rfl (fun _ => rfl) rfl) (lk_at hk (i := 20) rfl (fun _ => rfl) rfl) (add_uu _ _ W y (((shr28 ky k2 x2 s2) + 18446744073709551616 - (shr28 ky k1 x1 s1)) % 18446744073709551616))) ?_
      refine h_ix 14 hn hS3 ?_
      refine h_st 15 (st_u (j := 1 + (leafL ky.data.toList)) hX3 (by rw [buC_size, hl]; have := leafL_lt ky.data.toList; omega) _) ⟨⟨_, hX4⟩, hS3.2.1.only ho4 (by omega), hS3.2.2.only ho4 (by omega)⟩ ?_
      refine fh_end (by kernel_rfl) ?_
      clear hn
      subst ha
      dsimp only [fr, cnd, Act.put, cond_true]
      simp only [List.setIfInBounds_toArray, List.set_cons_zero, List.set_cons_succ]
      have hX5 : Blk (v3.setCell ⟨b, 1 + (leafL ky.data.toList), none⟩ (.int .u64 (((y + (((shr28 ky k2 x2 s2) + 18446744073709551616 - (shr28 ky k1 x1 s1)) % 18446744073709551616)) % 18446744073709551616 : Nat) : Int))) b (buC r (chgL' L ky (shr28 ky k1 x1 s1) (shr28 ky k2 x2 s2))) 39 := by rw [HE.out]; exact hX4
      have hR5 := hR3.only ho4 (by omega)
      have hB5 := hB3.trans (ho4.below (Nat.le_refl _))
      clear hX4 ho4 hR3 hB3 hX3 hS3 hP3 hQ3 HE
      generalize v3.setCell ⟨b, 1 + (leafL ky.data.toList), none⟩ (.int .u64 (((y + (((shr28 ky k2 x2 s2) + 18446744073709551616 - (shr28 ky k1 x1 s1)) % 18446744073709551616)) % 18446744073709551616 : Nat) : Int)) = v5 at hX5 hR5 hB5 ⊢
      have l1 := ld_bu hX5 hLl
      have cR := rooted_any r _ v5 hLl hLL
      go_upto_region 2 with fail
      refine wp_region_lit ?_
      refine fl_start ?_
      generalize ha : Act.mk _ _ = a0
      have hn : a0.tmps.size = 26 := by rw [← ha]; kernel_rfl
      have h4 : (fr a0 []).eval (.tmp 4) = .pointer (some ⟨b, 0, none⟩) := by rw [← ha]; kernel_rfl
      refine fl_know hn rfl h4 ?_
      clear h4
      have h8 : (fr a0 [(4, true, .pointer (some ⟨b, 0, none⟩))]).eval (.tmp 8) = .pointer (some ⟨b + 3, 0, none⟩) := by rw [← ha]; kernel_rfl
      refine fl_know hn rfl h8 ?_
      clear h8
      refine g_ld hn ?_
      refine g_c1x en_spinney_burl_rooted hn (R := fun v w2 => v = .agg (buC (rootL (chgL' L ky (shr28 ky k1 x1 s1) (shr28 ky k2 x2 s2))) (chgL' L ky (shr28 ky k1 x1 s1) (shr28 ky k2 x2 s2))) ∧ Below v5.heap.size v5 w2) (cR.mono fun _ _ ⟨he, hb2⟩ => ⟨_, he, rfl, hb2⟩) ?_
      rintro v v6 ⟨rfl, hb6⟩
      have hR6 := hR5.keep hb6
      have hbs : (buC (rootL (chgL' L ky (shr28 ky k1 x1 s1) (shr28 ky k2 x2 s2))) (chgL' L ky (shr28 ky k1 x1 s1) (shr28 ky k2 x2 s2))).size = 17 := by rw [buC_size, hLl]
      refine g_str (c := (buC (rootL (chgL' L ky (shr28 ky k1 x1 s1) (shr28 ky k2 x2 s2))) (chgL' L ky (shr28 ky k1 x1 s1) (shr28 ky k2 x2 s2)))) hR6 ?_ (hs := by rw [hbs]; rfl) (hi := by rw [hbs]; kernel_rfl) (h1 := bu_one _ _)
      intro v7 ho7 hX7
      refine fl_end ?_
      clear hn l1 cR
      subst ha
      dsimp only [fr, cnd, Act.put, cond_true]
      simp only [List.setIfInBounds_toArray, List.set_cons_zero, List.set_cons_succ]
      have hB7 := (hB5.trans (hb6.mono (by have := hR5.lt; omega))).trans (ho7.below (by omega))
      go_wp2_with fail
      refine bodyPost_ret (results_cell_row Try.results19 _ _ (b + 3) 39 (buC (rootL (chgL' L ky (shr28 ky k1 x1 s1) (shr28 ky k2 x2 s2))) (chgL' L ky (shr28 ky k1 x1 s1) (shr28 ky k2 x2 s2))) (0, 0) _ (by rfl) hX7 Try.underlying39 (by rfl) (by rw [hbs]; kernel_rfl)) rfl ?_
      exact ⟨rfl, by first | exact hB7 | (rw [hb]; exact hB7)⟩
end Go.Proofs.Ytokkmofcijfmiab
