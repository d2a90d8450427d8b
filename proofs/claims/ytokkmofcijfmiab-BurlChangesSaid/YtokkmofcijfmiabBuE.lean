/-
  WHAT IS PROVED: a burl's root: of its leaves' bytes. Conditions: those typed in each theorem.
-/
import Derived.Test.YtokkmofcijfmiabBuC
import Derived.Test.YtokkmofcijfmiabWidePut
namespace Go.Proofs.Ytokkmofcijfmiab
open Go.RowKit

theorem en_spinney_burl_rooted : ∀ args w, (callFunc 38 args).run Try.prog w = .ok (.enter 38 args) w := enters_of Try.func38 (by kernel_rfl) rfl

/-- The leaves' bytes. -/
def rowTo (L : List Nat) (k : Nat) : List UInt8 := ((L.take k).map (wdB 8)).flatten
def rootL (L : List Nat) : Nat := digL (rowTo L 16)
theorem rowTo_zero (L : List Nat) : rowTo L 0 = [] := by simp [rowTo]
theorem rowTo_next {L : List Nat} {k x : Nat} (h : L[k]? = some x) : rowTo L (k + 1) = rowTo L k ++ wdB 8 x := by
  unfold rowTo
  rw [List.take_add_one, h]
  simp
theorem rowTo_len {L : List Nat} : ∀ {k : Nat}, k ≤ L.length → (rowTo L k).length = 8 * k := by
  intro k
  induction k with
  | zero => intro _; simp [rowTo]
  | succ k ih =>
    intro h
    rw [rowTo_next (List.getElem?_eq_getElem (by omega)), List.length_append, wdB_len, ih (by omega)]
    omega
theorem rootL_lt (L : List Nat) : rootL L < 18446744073709551616 := digL_lt _
/-- The leaves as cells. -/
def buL (L : List Nat) : Array Value := (L.map fun x : Nat => Value.int .u64 (x : Int)).toArray
theorem buL_size (L : List Nat) : (buL L).size = L.length := by simp [buL]
theorem bu_cases {L : List Nat} (hl : L.length = 16) : ∃ a0 a1 a2 a3 a4 a5 a6 a7 a8 a9 a10 a11 a12 a13 a14 a15, L = [a0, a1, a2, a3, a4, a5, a6, a7, a8, a9, a10, a11, a12, a13, a14, a15] := by
  match L, hl with
  | [a0, a1, a2, a3, a4, a5, a6, a7, a8, a9, a10, a11, a12, a13, a14, a15], _ => exact ⟨_, _, _, _, _, _, _, _, _, _, _, _, _, _, _, _, rfl⟩
set_option maxRecDepth 100000 in
theorem ld_buL {W : World} {b r : Nat} {L : List Nat} (hX : Blk W b (buC r L) 39) (hl : L.length = 16) : (Instr.loadAt 37 (.pointer (some ⟨b, 1, none⟩))).run Try.prog W = .ok (.agg (buL L)) W := by
  obtain ⟨a0, a1, a2, a3, a4, a5, a6, a7, a8, a9, a10, a11, a12, a13, a14, a15, rfl⟩ := bu_cases hl
  exact run_loadAt_mid W b 1 _ (buL [a0, a1, a2, a3, a4, a5, a6, a7, a8, a9, a10, a11, a12, a13, a14, a15]).toList _ (fun j v hv => by
    rw [hX.cell (1 + j), Nat.add_comm]
    simpa [buC, buL] using hv) Try.underlying37 rfl (by kernel_rfl)
/-- The leaf at a place. -/
def gN (L : List Nat) (k : Nat) : Nat := match L[k]? with | some x => x | none => 0
theorem gN_some {L : List Nat} {k x : Nat} (h : L[k]? = some x) : gN L k = x := by unfold gN; rw [h]
set_option maxRecDepth 100000 in
set_option maxHeartbeats 2000000 in
theorem in_buG {L : List Nat} (hl : L.length = 16) {k : Nat} (hk : k < 16) (W : World) : (Instr.index 37 (.agg (buL L)) (.int .i64 (k : Int))).run Try.prog W = .ok (.int .u64 (gN L k : Nat)) W := by
  have hz : Try.prog.arrayLen 37 = 16 := by kernel_rfl
  have hc : Try.prog.cellsOf 36 = 1 := by kernel_rfl
  have i1 : (0 : Int) ≤ (k : Int) := by omega
  have i2 : (k : Int) < 16 := by omega
  obtain ⟨a0, a1, a2, a3, a4, a5, a6, a7, a8, a9, a10, a11, a12, a13, a14, a15, rfl⟩ := bu_cases hl
  simp [Instr.index, run_underlying Try.underlying37, asIntOf, go_sem]
  match k, hk with
  | 0, _ | 1, _ | 2, _ | 3, _ | 4, _ | 5, _ | 6, _ | 7, _ | 8, _ | 9, _ | 10, _ | 11, _ | 12, _ | 13, _ | 14, _ | 15, _ => rfl
theorem in_buL {L : List Nat} (hl : L.length = 16) {k x : Nat} (hx : L[k]? = some x) (hk : k < 16) (W : World) : (Instr.index 37 (.agg (buL L)) (.int .i64 (k : Int))).run Try.prog W = .ok (.int .u64 (x : Int)) W := by
  have h := in_buG hl hk W
  rw [gN_some hx] at h
  exact h
theorem st_u {W : World} {b j : Nat} {cs : Array Value} {T : TypeId} (hX : Blk W b cs T) (hj : j < cs.size) (x : Nat) : (Instr.storeAt 36 (.pointer (some ⟨b, j, none⟩)) (.int .u64 (x : Int))).run Try.prog W = .ok () (W.setCell ⟨b, j, none⟩ (.int .u64 (x : Int))) := by
  obtain ⟨u, hu⟩ := blk_some hX hj
  have hf := hX.free j
  clear hX
  go_simp
theorem buC_set0 (r r2 : Nat) (L : List Nat) : (buC r L).setIfInBounds 0 (.int .u64 (r2 : Int)) = buC r2 L := by simp [buC]
set_option maxRecDepth 100000 in
set_option maxHeartbeats 4000000 in
theorem rooted_any (r : Nat) (L : List Nat) (w : World) (hl : L.length = 16) (hL : ∀ x, x ∈ L → x < 18446744073709551616) : Calls Try.prog 38 #[.agg (buC r L)] w fun e w' => e = .returned (.agg (buC (rootL L) L)) ∧ Below w.heap.size w w' := by
  have hX0 := blk_new w (buC r L) 39
  replace hX0 := hX0.alloc (.cells #[.int .u64 0, .int .u64 0, .int .u64 0, .int .u64 0, .int .u64 0, .int .u64 0, .int .u64 0, .int .u64 0, .int .u64 0, .int .u64 0, .int .u64 0, .int .u64 0, .int .u64 0, .int .u64 0, .int .u64 0, .int .u64 0, .int .u64 0] 39)
  have hz1 : (w.alloc (.cells (buC r L) 39)).heap.size = w.heap.size + 1 := by simp
  have hX1 := blk_new (w.alloc (.cells (buC r L) 39)) #[.int .u64 0, .int .u64 0, .int .u64 0, .int .u64 0, .int .u64 0, .int .u64 0, .int .u64 0, .int .u64 0, .int .u64 0, .int .u64 0, .int .u64 0, .int .u64 0, .int .u64 0, .int .u64 0, .int .u64 0, .int .u64 0, .int .u64 0] 39
  rw [hz1] at hX1
  have hB := ba (b0 w (.cells (buC r L) 39)) (.cells #[.int .u64 0, .int .u64 0, .int .u64 0, .int .u64 0, .int .u64 0, .int .u64 0, .int .u64 0, .int .u64 0, .int .u64 0, .int .u64 0, .int .u64 0, .int .u64 0, .int .u64 0, .int .u64 0, .int .u64 0, .int .u64 0, .int .u64 0] 39)
  have hzz : ((w.alloc (.cells (buC r L) 39)).alloc (.cells #[.int .u64 0, .int .u64 0, .int .u64 0, .int .u64 0, .int .u64 0, .int .u64 0, .int .u64 0, .int .u64 0, .int .u64 0, .int .u64 0, .int .u64 0, .int .u64 0, .int .u64 0, .int .u64 0, .int .u64 0, .int .u64 0, .int .u64 0] 39)).heap.size = w.heap.size + 2 := by simp
  go_enter Try.func38, Try.ntmps38
  go_upto_region 2 with fail
  generalize ((w.alloc (.cells (buC r L) 39)).alloc (.cells #[.int .u64 0, .int .u64 0, .int .u64 0, .int .u64 0, .int .u64 0, .int .u64 0, .int .u64 0, .int .u64 0, .int .u64 0, .int .u64 0, .int .u64 0, .int .u64 0, .int .u64 0, .int .u64 0, .int .u64 0, .int .u64 0, .int .u64 0] 39)) = W0 at hX0 hX1 hB hzz ⊢
  (try simp only [hz1])
  clear hz1
  generalize hb : w.heap.size = b at hX0 hX1 hB hzz ⊢
  have f1 := fbu1 W0 b
  have l1 := ld_buL hX0 hl
  refine wp_region_lit ?_
  refine fl_start ?_
  generalize ha : Act.mk _ _ = a0
  have hn : a0.tmps.size = 19 := by rw [← ha]; kernel_rfl
  have h1 : (fr a0 []).eval (.tmp 1) = .pointer (some ⟨b, 0, none⟩) := by rw [← ha]; kernel_rfl
  refine fl_know hn rfl h1 ?_
  clear h1
  refine g_fd hn ?_
  refine g_ld hn ?_
  refine g_mc hn ?_
  refine fl_end ?_
  clear hn
  subst ha
  dsimp only [fr, cnd, Act.put, cond_true]
  simp only [List.setIfInBounds_toArray, List.set_cons_zero, List.set_cons_succ]
  clear f1 l1
  have hP0 : PreB W0.heap.size W0 none 0 0 ([] : List UInt8) := .inr ⟨RdB.nil _ _ _, rfl, rfl, by omega⟩
  go_wp2_with fail
  go_loopw [3, 5, 8] (fun b3 _ i wr => ∃ (k : Nat) (A : Option Addr) (n c : Nat), k ≤ 16 ∧ b3 = .slice A n c ∧ i = .int .i64 k ∧ PreB W0.heap.size wr A n c (rowTo L k) ∧ (0 < k → RdB wr.heap.size wr A (rowTo L k)) ∧ Below W0.heap.size W0 wr) (fun _ _ i _ => 16 - (intOf i).toNat)
  case atStart => exact ⟨0, none, 0, 0, by omega, rfl, rfl, by rw [rowTo_zero]; exact hP0, fun h => absurd h (by omega), Below.refl _ _⟩
  case round =>
    clear hP0
    obtain ⟨k, A, n, c, hk, rfl, rfl, hP, hR, hB1⟩ := hrel
    have hnk := hP.len
    rw [rowTo_len (by omega)] at hnk
    by_cases hlt : k < 16
    · clear hR
      obtain ⟨x, hx⟩ := at16 hl hlt
      have i2 : (k : Int) < 16 := by omega
      have hxl := hL x (List.mem_of_getElem? hx)
      have ni := in_buL hl hx hlt wr
      go_upto_region 4 with fail
      refine wp_region_lit ?_
      refine fl_start ?_
      generalize ha : Act.mk _ _ = a0
      have hn : a0.tmps.size = 19 := by rw [← ha]; kernel_rfl
      have h7 : (fr a0 []).eval (.tmp 7) = .agg (buL L) := by rw [← ha]; kernel_rfl
      refine fl_know hn rfl h7 ?_
      clear h7
      have h8 : (fr a0 [(7, true, .agg (buL L))]).eval (.tmp 8) = .int .i64 (k : Int) := by rw [← ha]; kernel_rfl
      refine fl_know hn rfl h8 ?_
      clear h8
      refine g_o2 (i := 7) (j := 8) (vi := .agg (buL L)) (vj := .int .i64 (k : Int)) (v := .int .u64 (x : Int)) hn (fun ρ h1 h2 _ => by unfold execOp; dsimp only; rw [h1, h2, Sem.run_bind, ni]; rfl) ?_
      refine g_as hn ?_
      refine fl_end ?_
      clear hn ni
      subst ha
      dsimp only [fr, cnd, Act.put, cond_true]
      simp only [List.setIfInBounds_toArray, List.set_cons_zero, List.set_cons_succ]
      go_wp2_with fail
      refine (widePut_any W0.heap.size A n c (rowTo L k) x 8 wr hP hB1.size (by omega) hxl (by decide) (by decide)).mono ?_
      rintro e w2 ⟨⟨A2, n2, c2, rfl, hO⟩, hb2, _⟩
      have HO : Hid (OwnB W0.heap.size w2 A2 n2 c2 (rowTo L (k + 1))) := by show OwnB _ _ _ _ _ _; rw [rowTo_next hx]; exact hO
      clear hO
      go_wp2_with fail
      refine ⟨?_, ?_⟩
      · first
        | exact ⟨k + 1, A2, n2, c2, by omega, rfl, by go_num, .inl HO.out, fun _ => HO.out.rd, hB1.trans hb2⟩
        | repeat apply Exists.intro
          refine ⟨?_, rfl⟩
          exact ⟨k + 1, A2, n2, c2, by omega, rfl, by go_num, .inl HO.out, fun _ => HO.out.rd, hB1.trans hb2⟩
      · simp [intOf]; omega
    · have hk16 : k = 16 := by omega
      subst hk16
      have i2 : ¬ ((16 : Nat) : Int) < 16 := by omega
      have i3 : ¬ (16 : Int) < 16 := by omega
      have hr := hR (by omega)
      clear hR
      have cD := dig_any A n c (rowTo L 16) wr (by rw [rowTo_len (by omega)]; omega) hr (by omega)
      have hX2 := hX0.keep hB1
      have hX3 := hX1.keep hB1
      have f0 := fbu0 wr b
      go_upto_region 7 with fail
      refine wp_region_lit ?_
      refine fl_start ?_
      generalize ha : Act.mk _ _ = a0
      have hn : a0.tmps.size = 19 := by rw [← ha]; kernel_rfl
      have h1 : (fr a0 []).eval (.tmp 1) = .pointer (some ⟨b, 0, none⟩) := by rw [← ha]; kernel_rfl
      refine fl_know hn rfl h1 ?_
      clear h1
      have h3 : (fr a0 [(1, true, .pointer (some ⟨b, 0, none⟩))]).eval (.tmp 3) = .slice A n c := by rw [← ha]; kernel_rfl
      refine fl_know hn rfl h3 ?_
      clear h3
      refine g_mv hn ?_
      refine g_c1x en_spinney_burl_Digest hn (R := fun v w2 => v = .int .u64 (rootL L : Nat) ∧ w2 = wr) (cD.mono fun _ _ ⟨he, hb2⟩ => ⟨_, he, rfl, hb2.symm⟩) ?_
      rintro v w2 ⟨rfl, hw2⟩
      rw [hw2]
      clear hw2
      refine g_fd hn ?_
      refine g_stt hX2 (hr := st_u (j := 0) hX2 (by rw [buC_size]; omega) (rootL L)) ?_
      intro w3 ho3 hX4
      rw [buC_set0] at hX4
      refine fl_end ?_
      clear hn cD f0
      subst ha
      dsimp only [fr, cnd, Act.put, cond_true]
      simp only [List.setIfInBounds_toArray, List.set_cons_zero, List.set_cons_succ]
      have hX5 := hX3.only ho3 (by omega)
      have l2 := ld_bu hX4 hl
      go_upto_region 8 with fail
      refine wp_region_lit ?_
      refine fl_start ?_
      generalize ha : Act.mk _ _ = a0
      have hn : a0.tmps.size = 19 := by rw [← ha]; kernel_rfl
      have h1 : (fr a0 []).eval (.tmp 1) = .pointer (some ⟨b, 0, none⟩) := by rw [← ha]; kernel_rfl
      refine fl_know hn rfl h1 ?_
      clear h1
      have h2 : (fr a0 [(1, true, .pointer (some ⟨b, 0, none⟩))]).eval (.tmp 2) = .pointer (some ⟨b + 1, 0, none⟩) := by rw [← ha]; kernel_rfl
      refine fl_know hn rfl h2 ?_
      clear h2
      refine g_ld hn ?_
      refine g_str (c := buC (rootL L) L) hX5 ?_ (hs := by rw [buC_size, hl]; rfl) (hi := by rw [buC_size, hl]; kernel_rfl) (h1 := bu_one _ _)
      intro w4 ho4 hX6
      refine fl_end ?_
      clear hn l2
      subst ha
      dsimp only [fr, cnd, Act.put, cond_true]
      simp only [List.setIfInBounds_toArray, List.set_cons_zero, List.set_cons_succ]
      go_wp2_with fail
      refine bodyPost_ret (results_cell_row Try.results38 _ _ (b + 1) 39 (buC (rootL L) L) (0, 0) _ (by rfl) hX6 Try.underlying39 (by rfl) (by rw [buC_size, hl]; kernel_rfl)) rfl ?_
      have g1 : Below b w wr := by
        have h := hB.size
        exact hB.trans (hB1.mono (by omega))
      have g2 := (g1.trans (ho3.below (Nat.le_refl _))).trans (ho4.below (by omega))
      exact ⟨rfl, by first | exact g2 | (rw [hb]; exact g2)⟩
end Go.Proofs.Ytokkmofcijfmiab
