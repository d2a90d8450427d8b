/-
  WHAT IS PROVED: where two burls part: the code's, the document's; slices.Equal of whole numbers; the law BurlParts. Conditions: those typed in each theorem.
-/
import Derived.Test.YtokkmofcijfmiabBuA
import Derived.Test.YtokkmofcijfmiabGQ12
namespace Go.Proofs.Ytokkmofcijfmiab
open Go.RowKit

theorem en_spinney_burl_Part : ∀ args w, (callFunc 14 args).run Try.prog w = .ok (.enter 14 args) w := enters_of Try.func14 (by kernel_rfl) rfl
theorem en_spinney_spinneyref28_Part : ∀ args w, (callFunc 31 args).run Try.prog w = .ok (.enter 31 args) w := enters_of Try.func31 (by kernel_rfl) rfl
/-- A burl's cells: the root, then the leaves. -/
def buC (r : Nat) (L : List Nat) : Array Value := ((r :: L).map fun x : Nat => Value.int .u64 (x : Int)).toArray
theorem buC_size (r : Nat) (L : List Nat) : (buC r L).size = L.length + 1 := by simp [buC]
theorem buC_0 (r : Nat) (L : List Nat) : (buC r L)[0]? = some (.int .u64 (r : Int)) := by simp [buC]
theorem buC_at (r : Nat) (L : List Nat) (k x : Nat) (h : L[k]? = some x) : (buC r L)[1 + k]? = some (.int .u64 (x : Int)) := by
  rw [Nat.add_comm]
  simp [buC, h]
/-- Where they part. -/
def parts (r r2 : Nat) (L L2 : List Nat) : List Int := if r = r2 then [] else ((List.range 16).filter fun k => L[k]? != L2[k]?).map fun k : Nat => (k : Int)
def partTo (L L2 : List Nat) (k : Nat) : List Int := ((List.range k).filter fun j => L[j]? != L2[j]?).map fun j : Nat => (j : Int)
theorem partTo_next (L L2 : List Nat) (k : Nat) : partTo L L2 (k + 1) = if (L[k]? != L2[k]?) = true then partTo L L2 k ++ [(k : Int)] else partTo L L2 k := by
  unfold partTo
  rw [List.range_succ, List.filter_append]
  cases h : (L[k]? != L2[k]?) with
  | true => simp [h]
  | false => simp [h]
theorem partTo_len (L L2 : List Nat) (k : Nat) : (partTo L L2 k).length ≤ k := by
  unfold partTo
  rw [List.length_map]
  have := List.length_filter_le (fun j => L[j]? != L2[j]?) (List.range k)
  simpa using this
theorem neq_u (i j : Nat) (x y : Nat) (W : World) : ((do eqGuard .neq 36 (.tmp i) (.tmp j) (.int .u64 (x : Int)) (.int .u64 (y : Int)); binOp .neq 36 (.int .u64 (x : Int)) (.int .u64 (y : Int))) : Sem Value).run Try.prog W = .ok (.bool (x != y)) W := by
  have e : ((x : Int) != (y : Int)) = (x != y) := by
    rw [Bool.eq_iff_iff]
    simp
    omega
  rw [← e]
  clear e
  go_simp
theorem eq_u (i j : Nat) (x y : Nat) (W : World) : ((do eqGuard .eql 36 (.tmp i) (.tmp j) (.int .u64 (x : Int)) (.int .u64 (y : Int)); binOp .eql 36 (.int .u64 (x : Int)) (.int .u64 (y : Int))) : Sem Value).run Try.prog W = .ok (.bool (x == y)) W := by
  have e : ((x : Int) == (y : Int)) = (x == y) := by
    rw [Bool.eq_iff_iff]
    simp
    omega
  rw [← e]
  clear e
  go_simp
theorem ld_u {W : World} {a : Addr} {x : Nat} (h : W.cell? a = some (.int .u64 (x : Int))) : (Instr.loadAt 36 (.pointer (some a))).run Try.prog W = .ok (.int .u64 (x : Int)) W := by go_simp
theorem fbu0 (W : World) (b : Nat) : (Instr.fieldAt 39 (.pointer (some ⟨b, 0, none⟩)) 0).run Try.prog W = .ok (.pointer (some ⟨b, 0, none⟩)) W := by kernel_rfl
theorem fbu1 (W : World) (b : Nat) : (Instr.fieldAt 39 (.pointer (some ⟨b, 0, none⟩)) 1).run Try.prog W = .ok (.pointer (some ⟨b, 1, none⟩)) W := by kernel_rfl
theorem rbu0 (W : World) (b : Nat) : (Instr.fieldAt 66 (.pointer (some ⟨b, 0, none⟩)) 0).run Try.prog W = .ok (.pointer (some ⟨b, 0, none⟩)) W := by kernel_rfl
theorem rbu1 (W : World) (b : Nat) : (Instr.fieldAt 66 (.pointer (some ⟨b, 0, none⟩)) 1).run Try.prog W = .ok (.pointer (some ⟨b, 1, none⟩)) W := by kernel_rfl
theorem ix_bu (W : World) (b k : Nat) (hk : k < 16) : (Instr.indexAt 37 (.pointer (some ⟨b, 1, none⟩)) (.int .i64 (k : Int))).run Try.prog W = .ok (.pointer (some ⟨b, 1 + k, none⟩)) W := by
  have h1 : (k : Int) < 16 := by omega
  have h0 : (0 : Int) ≤ (k : Int) := by omega
  have hz : Try.prog.arrayLen 37 = 16 := by kernel_rfl
  have e : (⟨b, 1, none⟩ : Addr).add k = ⟨b, 1 + k, none⟩ := by
    unfold Addr.add
    split
    · next h => rw [h]
    · rfl
  go_simp
theorem at16 {L : List Nat} (h : L.length = 16) {k : Nat} (hk : k < 16) : ∃ x, L[k]? = some x := ⟨_, List.getElem?_eq_getElem (by omega)⟩
/-- A row of whole numbers of the call's own, answered. -/
def OwnI (ks : List Int) (w : World) (e : Ending) (w' : World) : Prop := ∃ A n c, e = .returned (.slice A n c) ∧ OwnX tIn 1 w.heap.size w' A n c (ks.map inC) ∧ Below w.heap.size w w'
theorem in_one (l : List Int) : ∀ x, x ∈ l.map inC → ∀ u ∈ x.toList, u.oneCell' = true := fun cs hc u hu => by
  obtain ⟨x, _, rfl⟩ := List.mem_map.1 hc
  have e : u = .int .i64 x := by simpa using hu
  rw [e]
  rfl
set_option maxRecDepth 100000 in
set_option maxHeartbeats 1000000 in
theorem buPart_any (r r2 : Nat) (L L2 : List Nat) (w : World) (hl : L.length = 16) (hl2 : L2.length = 16) : Calls Try.prog 14 #[.agg (buC r L), .agg (buC r2 L2)] w (OwnI (parts r r2 L L2) w) := by
  have hX0 := blk_new w (buC r L) 39
  replace hX0 := hX0.alloc (.cells (buC r2 L2) 39)
  have hz1 : (w.alloc (.cells (buC r L) 39)).heap.size = w.heap.size + 1 := by simp
  have hX1 := blk_new (w.alloc (.cells (buC r L) 39)) (buC r2 L2) 39
  rw [hz1] at hX1
  have hB := ba (b0 w (.cells (buC r L) 39)) (.cells (buC r2 L2) 39)
  have hzz : ((w.alloc (.cells (buC r L) 39)).alloc (.cells (buC r2 L2) 39)).heap.size = w.heap.size + 2 := by simp
  go_enter Try.func14, Try.ntmps14
  go_upto_region 1 with fail
  generalize ((w.alloc (.cells (buC r L) 39)).alloc (.cells (buC r2 L2) 39)) = W0 at hX0 hX1 hB hzz ⊢
  (try simp only [hz1])
  clear hz1
  generalize hb : w.heap.size = b at hX0 hX1 hB hzz ⊢
  have f0 : ∀ W, Kp W0 W → _ := fun W _ => fbu0 W b
  have f1 : ∀ W, Kp W0 W → _ := fun W _ => fbu0 W (b + 1)
  have r0 : ∀ W, Kp W0 W → (Instr.loadAt 36 (.pointer (some ⟨b, 0, none⟩))).run Try.prog W = .ok (.int .u64 (r : Int)) W := fun W h => ld_u (((h.blk hX0).cell _).trans (buC_0 _ _))
  have r1 : ∀ W, Kp W0 W → (Instr.loadAt 36 (.pointer (some ⟨b + 1, 0, none⟩))).run Try.prog W = .ok (.int .u64 (r2 : Int)) W := fun W h => ld_u (((h.blk hX1).cell _).trans (buC_0 _ _))
  have e0 : ∀ W, Kp W0 W → _ := fun W _ => eq_u 8 10 r r2 W
  refine wp_region_lit ?_
  refine fs_start (Kp W0) (Kp.refl _) ?_
  generalize ha : Act.mk _ _ = a0
  have hn : a0.tmps.size = 30 := by rw [← ha]; kernel_rfl
  have h2 : (fr a0 []).eval (.tmp 2) = .pointer (some ⟨b, 0, none⟩) := by rw [← ha]; kernel_rfl
  refine fs_know hn rfl h2 ?_
  clear h2
  have h3 : (fr a0 [(2, true, .pointer (some ⟨b, 0, none⟩))]).eval (.tmp 3) = .pointer (some ⟨b + 1, 0, none⟩) := by rw [← ha]; kernel_rfl
  refine fs_know hn rfl h3 ?_
  clear h3
  refine s_fd hn ?_
  refine s_ld hn ?_
  refine s_fd hn ?_
  refine s_ld hn ?_
  refine s_bn hn ?_
  refine fs_end (fun W1 hS => ?_)
  clear hn
  subst ha
  dsimp only [fr, cnd, Act.put, cond_true]
  simp only [List.setIfInBounds_toArray, List.set_cons_zero, List.set_cons_succ]
  have hX01 := hS.blk hX0
  have hX11 := hS.blk hX1
  have hB1 : Below b w W1 := hB.trans (hS.below.mono (by omega))
  have hz1 : W0.heap.size ≤ W1.heap.size := hS.below.size
  clear hX0 hX1 hB f0 f1 r0 r1 e0 hS
  have hX0 := hX01
  have hX1 := hX11
  have hB := hB1
  clear hX01 hX11 hB1
  by_cases hrr : r = r2
  · have hi : (r == r2) = true := by simpa using hrr
    rw [hi]
    have R : Hid (parts r r2 L L2 = []) := by show _ = _; unfold parts; rw [if_pos hrr]
    clear hX0 hX1 hrr
    go_wp2_with fail
    go_ret
    unfold OwnI
    rw [hb, R.out]
    exact ⟨none, 0, 0, rfl, OwnX.nil _ _ _ _, by first | exact hB | (rw [hb]; exact hB)⟩
  have hi : (r == r2) = false := by simpa using hrr
  rw [hi]
  have R : Hid (parts r r2 L L2 = partTo L L2 16) := by show _ = _; unfold parts; rw [if_neg hrr]; rfl
  have hO0 := OwnX.nil tIn 1 (b + 2) W1
  go_wp2_with fail
  go_loopw [5, 6, 12] (fun u5 _ i wr => ∃ (k : Nat) (A5 : Option Addr) (n5 c5 : Nat), k ≤ 16 ∧ i = .int .i64 k ∧ u5 = .slice A5 n5 c5 ∧ OwnX tIn 1 (b + 2) wr A5 n5 c5 ((partTo L L2 k).map inC) ∧ Blk wr b (buC r L) 39 ∧ Blk wr (b + 1) (buC r2 L2) 39 ∧ Below b w wr) (fun _ _ i _ => 16 - (intOf i).toNat)
  case atStart => exact ⟨0, none, 0, 0, by omega, rfl, rfl, hO0, hX0, hX1, hB⟩
  case round =>
    clear hX0 hX1 hB hO0
    obtain ⟨k, A5, n5, c5, hk, rfl, rfl, hO, hX0, hX1, hB⟩ := hrel
    by_cases hlt : k < 16
    · obtain ⟨x, hx⟩ := at16 hl hlt
      obtain ⟨y, hy⟩ := at16 hl2 hlt
      have i2 : (k : Int) < 16 := by omega
      have HX : Hid ((partTo L L2 (k + 1)) = if (x != y) = true then (partTo L L2 k) ++ [(k : Int)] else (partTo L L2 k)) := by
        show _ = _
        rw [partTo_next, hx, hy]
        have e : (some x != some y) = (x != y) := by rw [Bool.eq_iff_iff]; simp
        rw [e]
      have hn5 : n5 ≤ k := by
        have h := hO.len
        rw [List.length_map] at h
        have := partTo_len L L2 k
        omega
      have f0 : ∀ W, Kp wr W → _ := fun W _ => fbu0 W b
      have f1 : ∀ W, Kp wr W → _ := fun W _ => fbu1 W b
      have g0 : ∀ W, Kp wr W → _ := fun W _ => fbu0 W (b + 1)
      have g1 : ∀ W, Kp wr W → _ := fun W _ => fbu1 W (b + 1)
      have i0 : ∀ W, Kp wr W → _ := fun W _ => ix_bu W b k hlt
      have i1 : ∀ W, Kp wr W → _ := fun W _ => ix_bu W (b + 1) k hlt
      have l0 : ∀ W, Kp wr W → (Instr.loadAt 36 (.pointer (some ⟨b, 1 + k, none⟩))).run Try.prog W = .ok (.int .u64 (x : Int)) W := fun W h => ld_u (((h.blk hX0).cell _).trans (buC_at _ _ _ _ hx))
      have l1 : ∀ W, Kp wr W → (Instr.loadAt 36 (.pointer (some ⟨b + 1, 1 + k, none⟩))).run Try.prog W = .ok (.int .u64 (y : Int)) W := fun W h => ld_u (((h.blk hX1).cell _).trans (buC_at _ _ _ _ hy))
      have n2 : ∀ W, Kp wr W → _ := fun W _ => neq_u 18 22 x y W
      go_upto_region 7 with fail
      refine fc_start (S := Kp wr) (by kernel_rfl) (Kp.drew _) ?_
      generalize ha : Act.mk _ _ = a0
      have hn : a0.tmps.size = 30 := by rw [← ha]; kernel_rfl
      have h2 : (fr a0 []).eval (.tmp 2) = .pointer (some ⟨b, 0, none⟩) := by rw [← ha]; kernel_rfl
      refine fc_know hn rfl h2 ?_
      clear h2
      have h3 : (fr a0 [(2, true, .pointer (some ⟨b, 0, none⟩))]).eval (.tmp 3) = .pointer (some ⟨b + 1, 0, none⟩) := by rw [← ha]; kernel_rfl
      refine fc_know hn rfl h3 ?_
      clear h3
      have h6 : (fr a0 [(3, true, .pointer (some ⟨b + 1, 0, none⟩)), (2, true, .pointer (some ⟨b, 0, none⟩))]).eval (.tmp 6) = .int .i64 (k : Int) := by rw [← ha]; kernel_rfl
      refine fc_know hn rfl h6 ?_
      clear h6
      refine c_mv 0 hn ?_
      refine c_fd 1 hn ?_
      refine c_ix 2 hn ?_
      refine c_ld 3 hn ?_
      refine c_mv 4 hn ?_
      refine c_fd 5 hn ?_
      refine c_ix 6 hn ?_
      refine c_ld 7 hn ?_
      refine c_bn 8 hn ?_
      refine fc_end (fun w3 hS => ?_)
      clear hn
      subst ha
      dsimp only [fr, cnd, Act.put, cond_true]
      simp only [List.setIfInBounds_toArray, List.set_cons_zero, List.set_cons_succ]
      have hO3 := hO.keep hS
      have hX03 := hS.blk hX0
      have hX13 := hS.blk hX1
      have hB3 : Below b w w3 := hB.trans (hS.below.mono (by have := hX0.lt; omega))
      have hb3 : b + 2 ≤ w3.heap.size := hX13.lt
      clear f0 f1 g0 g1 i0 i1 l0 l1 n2  hO hX0 hX1 hB hS hx hy
      cases hd : (x != y) with
      | false =>
        rw [hd] at HX
        have HX3 : Hid ((partTo L L2 (k + 1)) = (partTo L L2 k)) := HX.out
        clear hd HX
        go_wp2_with fail
        refine ⟨?_, ?_⟩
        · first
          | exact ⟨k + 1, A5, n5, c5, by omega, by go_num, by first | rfl | trivial, by rw [HX3.out]; exact hO3, hX03, hX13, hB3⟩
          | repeat apply Exists.intro
            refine ⟨?_, rfl⟩
            exact ⟨k + 1, A5, n5, c5, by omega, by go_num, by first | rfl | trivial, by rw [HX3.out]; exact hO3, hX03, hX13, hB3⟩
        · simp [intOf]; omega
      | true =>
        rw [hd] at HX
        have HX3 : Hid ((partTo L L2 (k + 1)) = (partTo L L2 k) ++ [(k : Int)]) := HX.out
        clear hd HX
        go_upto_region 8 with fail
        refine wp_region_lit ?_
        refine fl_start ?_
        generalize ha : Act.mk _ _ = a0
        have hn : a0.tmps.size = 30 := by rw [← ha]; kernel_rfl
        have h5 : (fr a0 []).eval (.tmp 5) = .slice A5 n5 c5 := by rw [← ha]; kernel_rfl
        refine fl_know hn rfl h5 ?_
        clear h5
        have h6 : (fr a0 [(5, true, .slice A5 n5 c5)]).eval (.tmp 6) = .int .i64 (k : Int) := by rw [← ha]; kernel_rfl
        refine fl_know hn rfl h6 ?_
        clear h6
        refine g_mv hn ?_
        refine g_mv hn ?_
        refine g_bsX (v := .int .i64 (k : Int)) hn Try.underlying43 in_info (by decide) (by decide) rfl (bsIn _) ?_
        intro g w4 hg hY4 hB4
        have hO4 := hO3.keep hB4
        refine g_apX (m := 1) (n := n5) (base := b + 2) hn Try.underlying43 in_info rfl (by decide) (by decide) hO4 (in_szd [(k : Int)]) rfl (in_one _) (blk_rdC hY4) (by omega) (by have := hB4.size; omega) (.inr (by omega)) ?_
        rintro v7 w7 ⟨A7, c7, rfl, hO7, hB7, _⟩
        refine g_as hn ?_
        refine fl_end ?_
        clear hn
        subst ha
        dsimp only [fr, cnd, Act.put, cond_true]
        simp only [List.setIfInBounds_toArray, List.set_cons_zero, List.set_cons_succ]
        have hX07 := (hX03.keep hB4).keep' hB7 (by omega)
        have hX17 := (hX13.keep hB4).keep' hB7 (by omega)
        have hB7' : Below b w w7 := (hB3.trans (hB4.mono (by omega))).trans (hB7.mono (by omega))
        rw [← List.map_append, ← HX3.out] at hO7
        clear hY4 hB4 hO4 hO3 hX03 hX13 hB3 hB7
        go_wp2_with fail
        refine ⟨?_, ?_⟩
        · first
          | exact ⟨k + 1, A7, n5 + 1, c7, by omega, by go_num, by first | rfl | trivial, hO7, hX07, hX17, hB7'⟩
          | repeat apply Exists.intro
            refine ⟨?_, rfl⟩
            exact ⟨k + 1, A7, n5 + 1, c7, by omega, by go_num, by first | rfl | trivial, hO7, hX07, hX17, hB7'⟩
        · simp [intOf]; omega
    · have e : k = 16 := by omega
      subst e
      have i2 : ¬ (16 : Int) < 16 := by omega
      have hO2 := hO.less (show b ≤ b + 2 by omega)
      clear hO hX0 hX1
      go_wp2_with fail
      go_ret
      unfold OwnI
      rw [hb, R.out]
      exact ⟨A5, n5, c5, rfl, hO2, by first | exact hB | (rw [hb]; exact hB)⟩
set_option maxRecDepth 100000 in
set_option maxHeartbeats 1000000 in
theorem buRefPart_any (r r2 : Nat) (L L2 : List Nat) (w : World) (hl : L.length = 16) (hl2 : L2.length = 16) : Calls Try.prog 31 #[.agg (buC r L), .agg (buC r2 L2)] w (OwnI (parts r r2 L L2) w) := by
  have hX0 := blk_new w (buC r L) 66
  replace hX0 := hX0.alloc (.cells (buC r2 L2) 66)
  have hz1 : (w.alloc (.cells (buC r L) 66)).heap.size = w.heap.size + 1 := by simp
  have hX1 := blk_new (w.alloc (.cells (buC r L) 66)) (buC r2 L2) 66
  rw [hz1] at hX1
  have hB := ba (b0 w (.cells (buC r L) 66)) (.cells (buC r2 L2) 66)
  have hzz : ((w.alloc (.cells (buC r L) 66)).alloc (.cells (buC r2 L2) 66)).heap.size = w.heap.size + 2 := by simp
  go_enter Try.func31, Try.ntmps31
  go_upto_region 1 with fail
  generalize ((w.alloc (.cells (buC r L) 66)).alloc (.cells (buC r2 L2) 66)) = W0 at hX0 hX1 hB hzz ⊢
  (try simp only [hz1])
  clear hz1
  generalize hb : w.heap.size = b at hX0 hX1 hB hzz ⊢
  have R : Hid (parts r r2 L L2 = if r = r2 then [] else partTo L L2 16) := by show _ = _; rfl
  have hO0 := OwnX.nil tIn 1 (b + 2) W0
  go_wp2_with fail
  go_loopw [5, 6, 7] (fun u5 _ i wr => ∃ (k : Nat) (A5 : Option Addr) (n5 c5 : Nat), k ≤ 16 ∧ i = .int .i64 k ∧ u5 = .slice A5 n5 c5 ∧ OwnX tIn 1 (b + 2) wr A5 n5 c5 ((if r = r2 then [] else partTo L L2 k).map inC) ∧ Blk wr b (buC r L) 66 ∧ Blk wr (b + 1) (buC r2 L2) 66 ∧ Below b w wr) (fun _ _ i _ => 16 - (intOf i).toNat)
  case atStart => exact ⟨0, none, 0, 0, by omega, rfl, rfl, by split <;> exact hO0, hX0, hX1, hB⟩
  case round =>
    clear hX0 hX1 hB hO0
    obtain ⟨k, A5, n5, c5, hk, rfl, rfl, hO, hX0, hX1, hB⟩ := hrel
    by_cases hlt : k < 16
    · obtain ⟨x, hx⟩ := at16 hl hlt
      obtain ⟨y, hy⟩ := at16 hl2 hlt
      have i2 : (k : Int) < 16 := by omega
      have HX : Hid ((if r = r2 then [] else partTo L L2 (k + 1)) = if (r != r2 && x != y) = true then (if r = r2 then [] else partTo L L2 k) ++ [(k : Int)] else (if r = r2 then [] else partTo L L2 k)) := by
        show _ = _
        rw [partTo_next, hx, hy]
        have e : (some x != some y) = (x != y) := by rw [Bool.eq_iff_iff]; simp
        rw [e]
        by_cases hr : r = r2
        · simp [hr]
        · simp [hr]
      have hn5 : n5 ≤ k := by
        have h := hO.len
        rw [List.length_map] at h
        have := partTo_len L L2 k
        split at h; (simp at h; omega); omega
      have f0 : ∀ W, Kp wr W → _ := fun W _ => rbu0 W b
      have f1 : ∀ W, Kp wr W → _ := fun W _ => rbu1 W b
      have g0 : ∀ W, Kp wr W → _ := fun W _ => rbu0 W (b + 1)
      have g1 : ∀ W, Kp wr W → _ := fun W _ => rbu1 W (b + 1)
      have i0 : ∀ W, Kp wr W → _ := fun W _ => ix_bu W b k hlt
      have i1 : ∀ W, Kp wr W → _ := fun W _ => ix_bu W (b + 1) k hlt
      have l0 : ∀ W, Kp wr W → (Instr.loadAt 36 (.pointer (some ⟨b, 1 + k, none⟩))).run Try.prog W = .ok (.int .u64 (x : Int)) W := fun W h => ld_u (((h.blk hX0).cell _).trans (buC_at _ _ _ _ hx))
      have l1 : ∀ W, Kp wr W → (Instr.loadAt 36 (.pointer (some ⟨b + 1, 1 + k, none⟩))).run Try.prog W = .ok (.int .u64 (y : Int)) W := fun W h => ld_u (((h.blk hX1).cell _).trans (buC_at _ _ _ _ hy))
      have m0 : ∀ W, Kp wr W → (Instr.loadAt 36 (.pointer (some ⟨b, 0, none⟩))).run Try.prog W = .ok (.int .u64 (r : Int)) W := fun W h => ld_u (((h.blk hX0).cell _).trans (buC_0 _ _))
      have m1 : ∀ W, Kp wr W → (Instr.loadAt 36 (.pointer (some ⟨b + 1, 0, none⟩))).run Try.prog W = .ok (.int .u64 (r2 : Int)) W := fun W h => ld_u (((h.blk hX1).cell _).trans (buC_0 _ _))
      have n1 : ∀ W, Kp wr W → _ := fun W _ => neq_u 11 13 r r2 W
      have n2 : ∀ W, Kp wr W → _ := fun W _ => neq_u 19 23 x y W
      go_upto_region 5 with fail
      refine fc_start (S := Kp wr) (by kernel_rfl) (Kp.drew _) ?_
      generalize ha : Act.mk _ _ = a0
      have hn : a0.tmps.size = 32 := by rw [← ha]; kernel_rfl
      have h2 : (fr a0 []).eval (.tmp 2) = .pointer (some ⟨b, 0, none⟩) := by rw [← ha]; kernel_rfl
      refine fc_know hn rfl h2 ?_
      clear h2
      have h3 : (fr a0 [(2, true, .pointer (some ⟨b, 0, none⟩))]).eval (.tmp 3) = .pointer (some ⟨b + 1, 0, none⟩) := by rw [← ha]; kernel_rfl
      refine fc_know hn rfl h3 ?_
      clear h3
      have h6 : (fr a0 [(3, true, .pointer (some ⟨b + 1, 0, none⟩)), (2, true, .pointer (some ⟨b, 0, none⟩))]).eval (.tmp 6) = .int .i64 (k : Int) := by rw [← ha]; kernel_rfl
      refine fc_know hn rfl h6 ?_
      clear h6
      refine c_fd 0 hn ?_
      refine c_ld 1 hn ?_
      refine c_fd 2 hn ?_
      refine c_ld 3 hn ?_
      refine c_bn 4 hn ?_
      refine c_mv 5 hn ?_
      refine c_mv 6 hn ?_
      refine c_fd 7 hn ?_
      refine c_ix 8 hn ?_
      refine c_ld 9 hn ?_
      refine c_mv 10 hn ?_
      refine c_fd 11 hn ?_
      refine c_ix 12 hn ?_
      refine c_ld 13 hn ?_
      refine c_bn 14 hn ?_
      refine c_an 15 hn ?_
      refine fc_end (fun w3 hS => ?_)
      clear hn
      subst ha
      dsimp only [fr, cnd, Act.put, cond_true]
      simp only [List.setIfInBounds_toArray, List.set_cons_zero, List.set_cons_succ]
      have hO3 := hO.keep hS
      have hX03 := hS.blk hX0
      have hX13 := hS.blk hX1
      have hB3 : Below b w w3 := hB.trans (hS.below.mono (by have := hX0.lt; omega))
      have hb3 : b + 2 ≤ w3.heap.size := hX13.lt
      clear f0 f1 g0 g1 i0 i1 l0 l1 n2 m0 m1 n1 hO hX0 hX1 hB hS hx hy
      cases hd : (r != r2 && x != y) with
      | false =>
        rw [hd] at HX
        have HX3 : Hid ((if r = r2 then [] else partTo L L2 (k + 1)) = (if r = r2 then [] else partTo L L2 k)) := HX.out
        clear hd HX
        go_wp2_with fail
        refine ⟨?_, ?_⟩
        · first
          | exact ⟨k + 1, A5, n5, c5, by omega, by go_num, by first | rfl | trivial, by rw [HX3.out]; exact hO3, hX03, hX13, hB3⟩
          | repeat apply Exists.intro
            refine ⟨?_, rfl⟩
            exact ⟨k + 1, A5, n5, c5, by omega, by go_num, by first | rfl | trivial, by rw [HX3.out]; exact hO3, hX03, hX13, hB3⟩
        · simp [intOf]; omega
      | true =>
        rw [hd] at HX
        have HX3 : Hid ((if r = r2 then [] else partTo L L2 (k + 1)) = (if r = r2 then [] else partTo L L2 k) ++ [(k : Int)]) := HX.out
        clear hd HX
        go_upto_region 6 with fail
        refine wp_region_lit ?_
        refine fl_start ?_
        generalize ha : Act.mk _ _ = a0
        have hn : a0.tmps.size = 32 := by rw [← ha]; kernel_rfl
        have h5 : (fr a0 []).eval (.tmp 5) = .slice A5 n5 c5 := by rw [← ha]; kernel_rfl
        refine fl_know hn rfl h5 ?_
        clear h5
        have h6 : (fr a0 [(5, true, .slice A5 n5 c5)]).eval (.tmp 6) = .int .i64 (k : Int) := by rw [← ha]; kernel_rfl
        refine fl_know hn rfl h6 ?_
        clear h6
        refine g_mv hn ?_
        refine g_mv hn ?_
        refine g_bsX (v := .int .i64 (k : Int)) hn Try.underlying43 in_info (by decide) (by decide) rfl (bsIn _) ?_
        intro g w4 hg hY4 hB4
        have hO4 := hO3.keep hB4
        refine g_apX (m := 1) (n := n5) (base := b + 2) hn Try.underlying43 in_info rfl (by decide) (by decide) hO4 (in_szd [(k : Int)]) rfl (in_one _) (blk_rdC hY4) (by omega) (by have := hB4.size; omega) (.inr (by omega)) ?_
        rintro v7 w7 ⟨A7, c7, rfl, hO7, hB7, _⟩
        refine g_as hn ?_
        refine fl_end ?_
        clear hn
        subst ha
        dsimp only [fr, cnd, Act.put, cond_true]
        simp only [List.setIfInBounds_toArray, List.set_cons_zero, List.set_cons_succ]
        have hX07 := (hX03.keep hB4).keep' hB7 (by omega)
        have hX17 := (hX13.keep hB4).keep' hB7 (by omega)
        have hB7' : Below b w w7 := (hB3.trans (hB4.mono (by omega))).trans (hB7.mono (by omega))
        rw [← List.map_append, ← HX3.out] at hO7
        clear hY4 hB4 hO4 hO3 hX03 hX13 hB3 hB7
        go_wp2_with fail
        refine ⟨?_, ?_⟩
        · first
          | exact ⟨k + 1, A7, n5 + 1, c7, by omega, by go_num, by first | rfl | trivial, hO7, hX07, hX17, hB7'⟩
          | repeat apply Exists.intro
            refine ⟨?_, rfl⟩
            exact ⟨k + 1, A7, n5 + 1, c7, by omega, by go_num, by first | rfl | trivial, hO7, hX07, hX17, hB7'⟩
        · simp [intOf]; omega
    · have e : k = 16 := by omega
      subst e
      have i2 : ¬ (16 : Int) < 16 := by omega
      have hO2 := hO.less (show b ≤ b + 2 by omega)
      clear hO hX0 hX1
      go_wp2_with fail
      go_ret
      unfold OwnI
      rw [hb, R.out]
      exact ⟨A5, n5, c5, rfl, hO2, by first | exact hB | (rw [hb]; exact hB)⟩
end Go.Proofs.Ytokkmofcijfmiab
