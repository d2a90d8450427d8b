/-
  WHAT IS PROVED: slate's Crash. Conditions: those typed in each theorem. · calls with any operands, as steps of a chain; the fixed fact of layer 9 (spinneylaw09.awake) holds. Condition: what the row lists is laid.
-/
import Derived.Test.YtjbmhbnlanbbkaaDoorGQ6
import Derived.Test.YtjbmhbnlanbbkaaDoorGQ2
import Derived.Lib.SlBytesConst
namespace Go.Proofs.YtjbmhbnlanbbkaaDoor
open Go.RowKit Go.MapKept

/-- The slice at A reads as these Bools, in blocks below B. -/
def RdK (B : Nat) (W : World) (A : Option Addr) (l : List Bool) : Prop := ∀ k x, l[k]? = some x → ∃ ad, A = some ad ∧ ad.block < B ∧ W.cell? (ad.add k) = some (.bool x)
theorem RdK.keep {B C : Nat} {W W' : World} {A : Option Addr} {l : List Bool} (h : RdK B W A l) (hb : Below C W W') (hBC : B ≤ C) : RdK B W' A l := fun k x hx => by
  obtain ⟨ad, hA, hlt, hc⟩ := h k x hx
  exact ⟨ad, hA, hlt, (hb.cell (by rw [add_block]; omega)).trans hc⟩
theorem RdK.nil (B : Nat) (W : World) (A : Option Addr) : RdK B W A [] := fun k x h => by simp at h
theorem ix_k (W : World) (ad : Addr) (n c k : Nat) (h : k < n) : (Instr.indexAt 29 (.slice (some ad) n c) (.int .i64 k)).run Tryd.prog W = .ok (.pointer (some (ad.add k))) W := by
  have i1 : (0 : Int) ≤ (k : Int) := by omega
  have i2 : (k : Int) < (n : Int) := by omega
  go_simp
theorem ld_k {W : World} {ad : Addr} {x : Bool} (h : W.cell? ad = some (.bool x)) : (Instr.loadAt 4 (.pointer (some ad))).run Tryd.prog W = .ok (.bool x) W := by
  go_simp
/-- Is the k-th kept? -/
def keepB (keep : List Bool) (k : Nat) : Bool := (keep[k]?).getD false
/-- What is kept behind a crash. -/
def crashF (D : Dk) (keep : List Bool) (l : List Pw) : Dk := l.zipIdx.foldl (fun D p => if keepB keep p.2 then putD D p.1 else D) D
theorem crashF_add (D : Dk) (keep : List Bool) {l : List Pw} {k : Nat} {x : Pw} (hx : l[k]? = some x) : crashF D keep (l.take (k + 1)) = if keepB keep k then putD (crashF D keep (l.take k)) x else crashF D keep (l.take k) := by
  have hk := (List.getElem?_eq_some_iff.1 hx).1
  unfold crashF
  rw [List.take_add_one, hx, Option.toList_some, List.zipIdx_append, List.foldl_append, List.length_take, Nat.min_eq_left (by omega), Nat.zero_add]
  rfl
def Sl.crash (M : Sl) (keep : List Bool) : Sl := ⟨crashF M.kept keep M.pend, crashF M.kept keep M.pend, [], false, 0, false⟩
theorem DkR.less {B b2 : Nat} {tg : Nat → Nat × Int} {k : Nat} {W : World} {d : Nat} {D : Dk} {f : Int → Option Value} (h : DkR B tg k W d D f) (hb : b2 ≤ B) : DkR b2 tg k W d D f :=
  ⟨h.mp, Nat.le_trans hb h.lo, h.tag, h.no, fun n v hv => by
    obtain ⟨c, g, h1, h2, h3, h4⟩ := h.yes n v hv
    exact ⟨c, g, h1, h2, Nat.le_trans hb h3, h4⟩⟩
/-- What a new disk is, on its way. -/
def CrI (B0 : Nat) (D : Dk) (d3 : Nat) (W wr : World) : Prop := (∃ tg f, DkR B0 tg 0 wr d3 D f) ∧ Below B0 W wr
theorem enters_Crash : ∀ args w, (callFunc 13 args).run Tryd.prog w = .ok (.enter 13 args) w := enters_of Tryd.func13 (by kernel_rfl) rfl

theorem kdec (k m : Nat) : decide ((k : Int) < (m : Int)) = decide (k < m) := by
  by_cases h : k < m
  · rw [decide_eq_true h, decide_eq_true (by omega)]
  · rw [decide_eq_false h, decide_eq_false (by omega)]
set_option maxRecDepth 100000 in
set_option maxHeartbeats 4000000 in
theorem crash_any (B s : Nat) (M : Sl) (A2 : Option Addr) (m c2 : Nat) (keep : List Bool) (W : World) (hR : SlR B W s M) (hm : keep.length = m) (hr : RdK W.heap.size W A2 keep) :
    Calls Tryd.prog 13 #[.pointer (some ⟨s, 0, none⟩), .slice A2 m c2] W fun e W' => ∃ v, e = .returned v ∧ NewR W (M.crash keep) v W' := by
  obtain ⟨d1, d2, A, n, c, hX⟩ := hR.slx
  have HX := Lib.hid hX
  have HM := Lib.hid hm
  have HR := Lib.hid hr
  have HL := Lib.hid hX.len
  have H6 := Lib.hid hX.p6
  have hcap := hX.own.cap
  unfold maxLen at hcap
  have hDk : ∃ tg f, DkR B tg 0 W d1 M.kept f := by
    obtain ⟨tg, f1, f2, _, _, h, _⟩ := hX
    exact ⟨tg, f1, h⟩
  obtain ⟨tg, f1, hD1⟩ := hDk
  have hC1 := Lib.hid (copied_any B tg (fun _ => (7, 0)) 0 0 d1 M.kept f1 W hD1)
  have hblk := hX.blk
  have a0 := sl_a0 W s
  have l0 := sl_l0 hblk
  clear hR hm hr hX hD1
  go_enter Tryd.func13, Tryd.ntmps13
  go_upto_region 1 with fail
  refine wp_region_lit ?_
  refine fl_start ?_
  generalize ha : Act.mk _ _ = a0
  have hn : a0.tmps.size = 42 := by rw [← ha]; kernel_rfl
  have h0 : (fr a0 []).eval (.tmp 0) = .pointer (some ⟨s, 0, none⟩) := by rw [← ha]; kernel_rfl
  refine fl_know hn rfl h0 ?_
  clear h0
  repeat first | refine g_mv hn ?_ | refine g_as hn ?_ | refine g_fd hn ?_ | refine g_ld hn ?_ | refine g_nc hn ?_ | refine g_nt hn ?_ | refine g_an hn ?_ | refine g_or hn ?_ | refine g_ln hn ?_ | refine g_ex hn ?_ | refine g_neq2 hn ?_ | refine g_neq hn ?_ | refine g_eql2 hn ?_ | refine g_eql hn ?_ | refine g_leq2 hn ?_ | refine g_leq hn ?_ | refine g_lss2 hn ?_ | refine g_lss hn ?_ | refine g_gtr2 hn ?_ | refine g_gtr hn ?_ | refine g_geq2 hn ?_ | refine g_geq hn ?_ | refine g_b0 hn ?_ | refine g_bn hn ?_ | refine g_bc hn ?_ | refine g_cv hn ?_ | refine g_ac hn ?_ | refine g_mc hn ?_
  refine g_c1x enters_copied hn hC1.out ?_
  rintro v w2 ⟨d3, tg3, f3, rfl, _, hD3, hb2⟩
  repeat first | refine g_mv hn ?_ | refine g_as hn ?_ | refine g_fd hn ?_ | refine g_ld hn ?_ | refine g_nc hn ?_ | refine g_nt hn ?_ | refine g_an hn ?_ | refine g_or hn ?_ | refine g_ln hn ?_ | refine g_ex hn ?_ | refine g_neq2 hn ?_ | refine g_neq hn ?_ | refine g_eql2 hn ?_ | refine g_eql hn ?_ | refine g_leq2 hn ?_ | refine g_leq hn ?_ | refine g_lss2 hn ?_ | refine g_lss hn ?_ | refine g_gtr2 hn ?_ | refine g_gtr hn ?_ | refine g_geq2 hn ?_ | refine g_geq hn ?_ | refine g_b0 hn ?_ | refine g_bn hn ?_ | refine g_bc hn ?_ | refine g_cv hn ?_ | refine g_ac hn ?_ | refine g_mc hn ?_
  refine fl_end ?_
  clear hn
  subst ha
  dsimp only [fr, cnd, Act.put, cond_true]
  simp only [List.setIfInBounds_toArray, List.set_cons_zero, List.set_cons_succ]
  have hX2 := hblk.keep hb2
  have HC : Hid (CrI W.heap.size (crashF M.kept keep (M.pend.take 0)) d3 W w2) := ⟨⟨tg3, f3, hD3⟩, hb2⟩
  have a2 := sl_a2 w2 s
  have l2 := sl_l2 hX2
  clear a0 l0 hC1 hblk hD3
  go_upto_region 2 with fail
  refine wp_region_lit ?_
  refine fl_start ?_
  generalize ha : Act.mk _ _ = a0
  have hn : a0.tmps.size = 42 := by rw [← ha]; kernel_rfl
  have h0 : (fr a0 []).eval (.tmp 0) = .pointer (some ⟨s, 0, none⟩) := by rw [← ha]; kernel_rfl
  refine fl_know hn rfl h0 ?_
  clear h0
  repeat first | refine g_mv hn ?_ | refine g_as hn ?_ | refine g_fd hn ?_ | refine g_ld hn ?_ | refine g_nc hn ?_ | refine g_nt hn ?_ | refine g_an hn ?_ | refine g_or hn ?_ | refine g_ln hn ?_ | refine g_ex hn ?_ | refine g_neq2 hn ?_ | refine g_neq hn ?_ | refine g_eql2 hn ?_ | refine g_eql hn ?_ | refine g_leq2 hn ?_ | refine g_leq hn ?_ | refine g_lss2 hn ?_ | refine g_lss hn ?_ | refine g_gtr2 hn ?_ | refine g_gtr hn ?_ | refine g_geq2 hn ?_ | refine g_geq hn ?_ | refine g_b0 hn ?_ | refine g_bn hn ?_ | refine g_bc hn ?_ | refine g_cv hn ?_ | refine g_ac hn ?_ | refine g_mc hn ?_
  refine fl_end ?_
  clear hn
  subst ha
  dsimp only [fr, cnd, Act.put, cond_true]
  simp only [List.setIfInBounds_toArray, List.set_cons_zero, List.set_cons_succ]
  clear a2 l2 hX2
  go_wp2_with fail
  go_loopw [6, 7, 18] (fun _ _ i wr => ∃ k : Nat, k ≤ n ∧ i = .int .i64 k ∧ Hid (CrI W.heap.size (crashF M.kept keep (M.pend.take k)) d3 W wr)) (fun _ _ i _ => n - (intOf i).toNat)
  case atStart => exact ⟨0, Nat.zero_le _, rfl, HC⟩
  case round =>
    clear HC hb2
    obtain ⟨k, hk, rfl, hA⟩ := hrel
    by_cases hlt : k < n
    · obtain ⟨x, hx⟩ : ∃ x, M.pend[k]? = some x := ⟨_, List.getElem?_eq_getElem (show k < M.pend.length by have := HL.out; omega)⟩
      have hx6 := H6.out x (List.mem_of_getElem? hx)
      obtain ⟨b, rfl, hbl, hc⟩ := (HX.out.below hA.out.2).own.rdp k x hx
      have i1 : (0 : Int) ≤ (k : Int) := by omega
      have i2 : (k : Int) < (n : Int) := by omega
      have k1 := ix_p wr b n c k hlt
      have k2 := ld_p (k := k) hx6 hc
      clear hc
      go_upto_region 4 with fail
      refine wp_region_lit ?_
      refine fl_start ?_
      generalize ha : Act.mk _ _ = a0
      have hn : a0.tmps.size = 42 := by rw [← ha]; kernel_rfl
      have h16 : (fr a0 []).eval (.tmp 16) = .slice (some ⟨b, 0, none⟩) n c := by rw [← ha]; kernel_rfl
      refine fl_know hn rfl h16 ?_
      clear h16
      have h18 : (fr a0 [(16, true, .slice (some ⟨b, 0, none⟩) n c)]).eval (.tmp 18) = .int .i64 k := by rw [← ha]; kernel_rfl
      refine fl_know hn rfl h18 ?_
      clear h18
      repeat first | refine g_mv hn ?_ | refine g_as hn ?_ | refine g_ix hn ?_ | refine g_fd hn ?_ | refine g_ld hn ?_ | refine g_nc hn ?_ | refine g_nt hn ?_ | refine g_an hn ?_ | refine g_or hn ?_ | refine g_ln hn ?_ | refine g_ex hn ?_ | refine g_neq2 hn ?_ | refine g_neq hn ?_ | refine g_eql2 hn ?_ | refine g_eql hn ?_ | refine g_leq2 hn ?_ | refine g_leq hn ?_ | refine g_lss2 hn ?_ | refine g_lss hn ?_ | refine g_gtr2 hn ?_ | refine g_gtr hn ?_ | refine g_geq2 hn ?_ | refine g_geq hn ?_ | refine g_b0 hn ?_ | refine g_bn hn ?_ | refine g_bc hn ?_ | refine g_cv hn ?_ | refine g_ac hn ?_ | refine g_mc hn ?_
      refine g_w hn (w2 := wr.alloc (.cells (⟨0, 0, z64⟩ : Pw).cells 61)) (v := .pointer (some ⟨wr.heap.size, 0, none⟩)) (fun _ => by unfold execOp; dsimp only; rw [Sem.run_bind, run_alW]; rfl) ?_
      have hY := blk_new wr (⟨0, 0, z64⟩ : Pw).cells 61
      have hB := b0 wr (.cells (⟨0, 0, z64⟩ : Pw).cells 61)
      generalize wr.alloc (.cells (⟨0, 0, z64⟩ : Pw).cells 61) = w5 at hY hB ⊢
      generalize hb7 : wr.heap.size = b7 at hY hB ⊢
      repeat first | refine g_mv hn ?_ | refine g_as hn ?_ | refine g_fd hn ?_ | refine g_ld hn ?_ | refine g_nc hn ?_ | refine g_nt hn ?_ | refine g_an hn ?_ | refine g_or hn ?_ | refine g_ln hn ?_ | refine g_ex hn ?_ | refine g_neq2 hn ?_ | refine g_neq hn ?_ | refine g_eql2 hn ?_ | refine g_eql hn ?_ | refine g_leq2 hn ?_ | refine g_leq hn ?_ | refine g_lss2 hn ?_ | refine g_lss hn ?_ | refine g_gtr2 hn ?_ | refine g_gtr hn ?_ | refine g_geq2 hn ?_ | refine g_geq hn ?_ | refine g_b0 hn ?_ | refine g_bn hn ?_ | refine g_bc hn ?_ | refine g_cv hn ?_ | refine g_ac hn ?_ | refine g_mc hn ?_
      refine g_str hY ?_ (hs := by rw [pw_size hx6]; exact pw_size rfl) (hi := by rw [pw_size hx6]; kernel_rfl) (h1 := pw_one _)
      intro w6 ho6 hY6
      refine fl_end ?_
      clear hn
      subst ha
      dsimp only [fr, cnd, Act.put, cond_true]
      simp only [List.setIfInBounds_toArray, List.set_cons_zero, List.set_cons_succ]
      replace hB : Below wr.heap.size wr w6 := by
        rw [hb7]
        exact hB.trans (ho6.below (Nat.le_refl _))
      clear k1 k2 hY ho6
      have hA6 : Hid (CrI W.heap.size (crashF M.kept keep (M.pend.take k)) d3 W w6) := by
        obtain ⟨⟨tg, f, h1⟩, h2⟩ := hA.out
        exact ⟨⟨tg, f, h1.below hB⟩, bt h2 hB⟩
      clear hA hB
      by_cases hkm : k < m
      · obtain ⟨kb, hkb⟩ : ∃ kb, keep[k]? = some kb := ⟨_, List.getElem?_eq_getElem (show k < keep.length by have := HM.out; omega)⟩
        obtain ⟨ad, rfl, hadl, hadc⟩ := HR.out.keep hA6.out.2 (Nat.le_refl _) k kb hkb
        have k1 := ix_k w6 ad m c2 k hkm
        have k2 := ld_k hadc
        have hkB : keepB keep k = kb := by unfold keepB; rw [hkb]; rfl
        go_upto_region 5 with fail
        refine wp_region_lit ?_
        refine fl_start ?_
        generalize ha : Act.mk _ _ = a0
        have hn : a0.tmps.size = 42 := by rw [← ha]; kernel_rfl
        have h1 : (fr a0 []).eval (.tmp 1) = .slice (some ad) m c2 := by rw [← ha]; kernel_rfl
        refine fl_know hn rfl h1 ?_
        clear h1
        have h6 : (fr a0 [(1, true, .slice (some ad) m c2)]).eval (.tmp 6) = .int .i64 k := by rw [← ha]; kernel_rfl
        refine fl_know hn rfl h6 ?_
        clear h6
        repeat first | refine g_mv hn ?_ | refine g_as hn ?_ | refine g_ix hn ?_ | refine g_fd hn ?_ | refine g_ld hn ?_ | refine g_nc hn ?_ | refine g_nt hn ?_ | refine g_an hn ?_ | refine g_or hn ?_ | refine g_ln hn ?_ | refine g_ex hn ?_ | refine g_neq2 hn ?_ | refine g_neq hn ?_ | refine g_eql2 hn ?_ | refine g_eql hn ?_ | refine g_leq2 hn ?_ | refine g_leq hn ?_ | refine g_lss2 hn ?_ | refine g_lss hn ?_ | refine g_gtr2 hn ?_ | refine g_gtr hn ?_ | refine g_geq2 hn ?_ | refine g_geq hn ?_ | refine g_b0 hn ?_ | refine g_bn hn ?_ | refine g_bc hn ?_ | refine g_cv hn ?_ | refine g_ac hn ?_ | refine g_mc hn ?_
        refine fl_endb (c := keepB keep k) (by rw [hkB, kdec, decide_eq_true hkm]; rfl) ?_
        clear hn 
        subst ha
        dsimp only [fr, cnd, Act.put, cond_true]
        simp only [List.setIfInBounds_toArray, List.set_cons_zero, List.set_cons_succ]
        clear k1 k2 hadc hkb hkB
        cases hkp : keepB keep k with
        | false =>
          have e : crashF M.kept keep (M.pend.take k) = crashF M.kept keep (M.pend.take (k + 1)) := by
            rw [crashF_add _ _ hx, hkp]
            rfl
          rw [e] at hA6
          clear hkp hY6 e
          go_wp2_with fail
          go_roundw
          case rel => exact ⟨k + 1, by omega, by go_num, hA6⟩
          case measure => simp [intOf]; omega
        | true =>
          have e : putD (crashF M.kept keep (M.pend.take k)) x = crashF M.kept keep (M.pend.take (k + 1)) := by
            rw [crashF_add _ _ hx, hkp]
            rfl
          clear hkp
          have l7 := pw_la hY6 hx6
          obtain ⟨⟨tg, f, hD6⟩, hb6⟩ := hA6.out
          have hDo := Lib.hid (do_any W.heap.size tg 0 d3 (crashF M.kept keep (M.pend.take k)) f x w6 hD6 hx6 hb6.size)
          go_upto_region 6 with fail
          refine wp_region_lit ?_
          refine fl_start ?_
          generalize ha : Act.mk _ _ = a0
          have hn : a0.tmps.size = 42 := by rw [← ha]; kernel_rfl
          have h5 : (fr a0 []).eval (.tmp 5) = .map (some d3) := by rw [← ha]; kernel_rfl
          refine fl_know hn rfl h5 ?_
          clear h5
          have h7 : (fr a0 [(5, true, .map (some d3))]).eval (.tmp 7) = .pointer (some ⟨b7, 0, none⟩) := by rw [← ha]; kernel_rfl
          refine fl_know hn rfl h7 ?_
          clear h7
          repeat first | refine g_mv hn ?_ | refine g_as hn ?_ | refine g_fd hn ?_ | refine g_ld hn ?_ | refine g_nc hn ?_ | refine g_nt hn ?_ | refine g_an hn ?_ | refine g_or hn ?_ | refine g_ln hn ?_ | refine g_ex hn ?_ | refine g_neq2 hn ?_ | refine g_neq hn ?_ | refine g_eql2 hn ?_ | refine g_eql hn ?_ | refine g_leq2 hn ?_ | refine g_leq hn ?_ | refine g_lss2 hn ?_ | refine g_lss hn ?_ | refine g_gtr2 hn ?_ | refine g_gtr hn ?_ | refine g_geq2 hn ?_ | refine g_geq hn ?_ | refine g_b0 hn ?_ | refine g_bn hn ?_ | refine g_bc hn ?_ | refine g_cv hn ?_ | refine g_ac hn ?_ | refine g_mc hn ?_
          refine g_c2x enters_do hn (R := fun v w7 => DoR W.heap.size tg 0 d3 (crashF M.kept keep (M.pend.take k)) x w6 w7) (hDo.out.mono fun _ _ ⟨he, h⟩ => ⟨_, he, h⟩) ?_
          rintro v w7 ⟨tg', f', _, hD7, hK7⟩
          refine fl_end ?_
          clear hn
          subst ha
          dsimp only [fr, cnd, Act.put, cond_true]
          simp only [List.setIfInBounds_toArray, List.set_cons_zero, List.set_cons_succ]
          rw [e] at hD7
          have hA7 : Hid (CrI W.heap.size (crashF M.kept keep (M.pend.take (k + 1))) d3 W w7) := ⟨⟨tg', f', hD7⟩, hb6.trans hK7.bel⟩
          clear hD7 hK7 hD6 hb6 hDo l7 hY6 hA6 e
          go_wp2_with fail
          go_roundw
          case rel => exact ⟨k + 1, by omega, by go_num, hA7⟩
          case measure => simp [intOf]; omega
      · have hkB : keepB keep k = false := by unfold keepB; rw [List.getElem?_eq_none (by have := HM.out; omega)]; rfl
        go_upto_region 5 with fail
        refine wp_region_lit ?_
        refine fl_start ?_
        generalize ha : Act.mk _ _ = a0
        have hn : a0.tmps.size = 42 := by rw [← ha]; kernel_rfl
        have h1 : (fr a0 []).eval (.tmp 1) = .slice A2 m c2 := by rw [← ha]; kernel_rfl
        refine fl_know hn rfl h1 ?_
        clear h1
        have h6 : (fr a0 [(1, true, .slice A2 m c2)]).eval (.tmp 6) = .int .i64 k := by rw [← ha]; kernel_rfl
        refine fl_know hn rfl h6 ?_
        clear h6
        repeat first | refine g_mv hn ?_ | refine g_as hn ?_ | refine g_fd hn ?_ | refine g_ld hn ?_ | refine g_nc hn ?_ | refine g_nt hn ?_ | refine g_an hn ?_ | refine g_or hn ?_ | refine g_ln hn ?_ | refine g_ex hn ?_ | refine g_neq2 hn ?_ | refine g_neq hn ?_ | refine g_eql2 hn ?_ | refine g_eql hn ?_ | refine g_leq2 hn ?_ | refine g_leq hn ?_ | refine g_lss2 hn ?_ | refine g_lss hn ?_ | refine g_gtr2 hn ?_ | refine g_gtr hn ?_ | refine g_geq2 hn ?_ | refine g_geq hn ?_ | refine g_b0 hn ?_ | refine g_bn hn ?_ | refine g_bc hn ?_ | refine g_cv hn ?_ | refine g_ac hn ?_ | refine g_mc hn ?_
        refine fl_op hn rfl (d := 30) (v := .bool false) rfl rfl (fun _ hg => absurd hg (by rw [kdec, decide_eq_false hkm]; decide)) ?_
        refine fl_op hn rfl (d := 31) (v := .bool false) rfl rfl (fun _ hg => absurd hg (by rw [kdec, decide_eq_false hkm]; decide)) ?_
        repeat first | refine g_mv hn ?_ | refine g_as hn ?_ | refine g_fd hn ?_ | refine g_ld hn ?_ | refine g_nc hn ?_ | refine g_nt hn ?_ | refine g_an hn ?_ | refine g_or hn ?_ | refine g_ln hn ?_ | refine g_ex hn ?_ | refine g_neq2 hn ?_ | refine g_neq hn ?_ | refine g_eql2 hn ?_ | refine g_eql hn ?_ | refine g_leq2 hn ?_ | refine g_leq hn ?_ | refine g_lss2 hn ?_ | refine g_lss hn ?_ | refine g_gtr2 hn ?_ | refine g_gtr hn ?_ | refine g_geq2 hn ?_ | refine g_geq hn ?_ | refine g_b0 hn ?_ | refine g_bn hn ?_ | refine g_bc hn ?_ | refine g_cv hn ?_ | refine g_ac hn ?_ | refine g_mc hn ?_
        refine fl_endb (c := keepB keep k) (by rw [hkB, kdec, decide_eq_false hkm]; rfl) ?_
        clear hn 
        subst ha
        dsimp only [fr, cnd, Act.put, cond_true]
        simp only [List.setIfInBounds_toArray, List.set_cons_zero, List.set_cons_succ]
        clear hkB
        cases hkp : keepB keep k with
        | false =>
          have e : crashF M.kept keep (M.pend.take k) = crashF M.kept keep (M.pend.take (k + 1)) := by
            rw [crashF_add _ _ hx, hkp]
            rfl
          rw [e] at hA6
          clear hkp hY6 e
          go_wp2_with fail
          go_roundw
          case rel => exact ⟨k + 1, by omega, by go_num, hA6⟩
          case measure => simp [intOf]; omega
        | true =>
          have e : putD (crashF M.kept keep (M.pend.take k)) x = crashF M.kept keep (M.pend.take (k + 1)) := by
            rw [crashF_add _ _ hx, hkp]
            rfl
          clear hkp
          have l7 := pw_la hY6 hx6
          obtain ⟨⟨tg, f, hD6⟩, hb6⟩ := hA6.out
          have hDo := Lib.hid (do_any W.heap.size tg 0 d3 (crashF M.kept keep (M.pend.take k)) f x w6 hD6 hx6 hb6.size)
          go_upto_region 6 with fail
          refine wp_region_lit ?_
          refine fl_start ?_
          generalize ha : Act.mk _ _ = a0
          have hn : a0.tmps.size = 42 := by rw [← ha]; kernel_rfl
          have h5 : (fr a0 []).eval (.tmp 5) = .map (some d3) := by rw [← ha]; kernel_rfl
          refine fl_know hn rfl h5 ?_
          clear h5
          have h7 : (fr a0 [(5, true, .map (some d3))]).eval (.tmp 7) = .pointer (some ⟨b7, 0, none⟩) := by rw [← ha]; kernel_rfl
          refine fl_know hn rfl h7 ?_
          clear h7
          repeat first | refine g_mv hn ?_ | refine g_as hn ?_ | refine g_fd hn ?_ | refine g_ld hn ?_ | refine g_nc hn ?_ | refine g_nt hn ?_ | refine g_an hn ?_ | refine g_or hn ?_ | refine g_ln hn ?_ | refine g_ex hn ?_ | refine g_neq2 hn ?_ | refine g_neq hn ?_ | refine g_eql2 hn ?_ | refine g_eql hn ?_ | refine g_leq2 hn ?_ | refine g_leq hn ?_ | refine g_lss2 hn ?_ | refine g_lss hn ?_ | refine g_gtr2 hn ?_ | refine g_gtr hn ?_ | refine g_geq2 hn ?_ | refine g_geq hn ?_ | refine g_b0 hn ?_ | refine g_bn hn ?_ | refine g_bc hn ?_ | refine g_cv hn ?_ | refine g_ac hn ?_ | refine g_mc hn ?_
          refine g_c2x enters_do hn (R := fun v w7 => DoR W.heap.size tg 0 d3 (crashF M.kept keep (M.pend.take k)) x w6 w7) (hDo.out.mono fun _ _ ⟨he, h⟩ => ⟨_, he, h⟩) ?_
          rintro v w7 ⟨tg', f', _, hD7, hK7⟩
          refine fl_end ?_
          clear hn
          subst ha
          dsimp only [fr, cnd, Act.put, cond_true]
          simp only [List.setIfInBounds_toArray, List.set_cons_zero, List.set_cons_succ]
          rw [e] at hD7
          have hA7 : Hid (CrI W.heap.size (crashF M.kept keep (M.pend.take (k + 1))) d3 W w7) := ⟨⟨tg', f', hD7⟩, hb6.trans hK7.bel⟩
          clear hD7 hK7 hD6 hb6 hDo l7 hY6 hA6 e
          go_wp2_with fail
          go_roundw
          case rel => exact ⟨k + 1, by omega, by go_num, hA7⟩
          case measure => simp [intOf]; omega
    · have hq : ¬ (k : Int) < (n : Int) := by omega
      obtain ⟨⟨tg, f, hD⟩, hb⟩ := hA.out
      rw [List.take_of_length_le (by have := HL.out; omega)] at hD
      clear hA
      have hD2 := copied_any W.heap.size tg tg 0 1 d3 (crashF M.kept keep M.pend) f wr hD
      go_upto_region 8 with fail
      refine wp_region_lit ?_
      refine fl_start ?_
      generalize ha : Act.mk _ _ = a0
      have hn : a0.tmps.size = 42 := by rw [← ha]; kernel_rfl
      have h5 : (fr a0 []).eval (.tmp 5) = .map (some d3) := by rw [← ha]; kernel_rfl
      refine fl_know hn rfl h5 ?_
      clear h5
      repeat first | refine g_mv hn ?_ | refine g_as hn ?_ | refine g_fd hn ?_ | refine g_ld hn ?_ | refine g_nc hn ?_ | refine g_nt hn ?_ | refine g_an hn ?_ | refine g_or hn ?_ | refine g_ln hn ?_ | refine g_ex hn ?_ | refine g_neq2 hn ?_ | refine g_neq hn ?_ | refine g_eql2 hn ?_ | refine g_eql hn ?_ | refine g_leq2 hn ?_ | refine g_leq hn ?_ | refine g_lss2 hn ?_ | refine g_lss hn ?_ | refine g_gtr2 hn ?_ | refine g_gtr hn ?_ | refine g_geq2 hn ?_ | refine g_geq hn ?_ | refine g_b0 hn ?_ | refine g_bn hn ?_ | refine g_bc hn ?_ | refine g_cv hn ?_ | refine g_ac hn ?_ | refine g_mc hn ?_
      refine g_c1x enters_copied hn hD2 ?_
      rintro v w2 ⟨d4, tg4, f4, rfl, htg4, hD4, hb4⟩
      have hD3 : DkR W.heap.size tg4 0 w2 d3 (crashF M.kept keep M.pend) f := hD.keep htg4 fun x hx _ => hb4.block x hx
      have hD4' := hD4.less hb.size
      have hb5 := hb.trans (hb4.mono hb.size)
      repeat first | refine g_mv hn ?_ | refine g_as hn ?_ | refine g_fd hn ?_ | refine g_ld hn ?_ | refine g_nc hn ?_ | refine g_nt hn ?_ | refine g_an hn ?_ | refine g_or hn ?_ | refine g_ln hn ?_ | refine g_ex hn ?_ | refine g_neq2 hn ?_ | refine g_neq hn ?_ | refine g_eql2 hn ?_ | refine g_eql hn ?_ | refine g_leq2 hn ?_ | refine g_leq hn ?_ | refine g_lss2 hn ?_ | refine g_lss hn ?_ | refine g_gtr2 hn ?_ | refine g_gtr hn ?_ | refine g_geq2 hn ?_ | refine g_geq hn ?_ | refine g_b0 hn ?_ | refine g_bn hn ?_ | refine g_bc hn ?_ | refine g_cv hn ?_ | refine g_ac hn ?_ | refine g_mc hn ?_
      refine g_bd hn ?_ (qs := #[(0, .map (some d3)), (1, .map (some d4))]) (v := .agg (slI d3 d4 none 0 0 false 0 false)) (hx := bd_sl d3 d4 w2) (hp := fun hk _ => by simp only [List.map_toArray, List.map_cons, List.map_nil, lk_at hk (i := 37) rfl (fun _ => rfl) rfl, lk_at hk (i := 39) rfl (fun _ => rfl) rfl])
      refine g_w hn (w2 := w2.alloc (.cells (slI d3 d4 none 0 0 false 0 false) 44)) (v := .pointer (some ⟨w2.heap.size, 0, none⟩)) (fun hk => by unfold execOp; dsimp only; rw [lk_at hk (i := 40) rfl (fun _ => rfl) rfl]; rfl) ?_
      repeat first | refine g_mv hn ?_ | refine g_as hn ?_ | refine g_fd hn ?_ | refine g_ld hn ?_ | refine g_nc hn ?_ | refine g_nt hn ?_ | refine g_an hn ?_ | refine g_or hn ?_ | refine g_ln hn ?_ | refine g_ex hn ?_ | refine g_neq2 hn ?_ | refine g_neq hn ?_ | refine g_eql2 hn ?_ | refine g_eql hn ?_ | refine g_leq2 hn ?_ | refine g_leq hn ?_ | refine g_lss2 hn ?_ | refine g_lss hn ?_ | refine g_gtr2 hn ?_ | refine g_gtr hn ?_ | refine g_geq2 hn ?_ | refine g_geq hn ?_ | refine g_b0 hn ?_ | refine g_bn hn ?_ | refine g_bc hn ?_ | refine g_cv hn ?_ | refine g_ac hn ?_ | refine g_mc hn ?_
      refine fl_end ?_
      clear hn
      subst ha
      dsimp only [fr, cnd, Act.put, cond_true]
      simp only [List.setIfInBounds_toArray, List.set_cons_zero, List.set_cons_succ]
      have hbl := b0 w2 (.cells (slI d3 d4 none 0 0 false 0 false) 44)
      have R : Hid (NewR W (M.crash keep) (.pointer (some ⟨w2.heap.size, 0, none⟩)) (w2.alloc (.cells (slI d3 d4 none 0 0 false 0 false) 44))) := by
        refine ⟨w2.heap.size, rfl, ⟨tg4, d3, d4, _, _, none, 0, 0, blk_new w2 (slI d3 d4 none 0 0 false 0 false) 44, hb5.size, hD3.below hbl, hD4'.below hbl, OwnX.nil _ _ _ _, fun x hx => ?_, ?_, ?_, ?_⟩, hb5.trans (hbl.mono hb5.size)⟩
        · have hx' : x ∈ ([] : List Pw) := hx
          simp at hx'
        · show (0 : Int) ≤ 0
          omega
        · show (0 : Int) ≤ 1099511627776
          omega
        · exact Nat.le_trans hb5.size hbl.size
      clear hD hb hD2 hD3 hD4 hD4' hb4 hb5 hbl htg4
      generalize w2.alloc (.cells (slI d3 d4 none 0 0 false 0 false) 44) = w9 at R ⊢
      go_wp2_with fail
      go_ret
      exact ⟨_, rfl, R.out⟩
end Go.Proofs.YtjbmhbnlanbbkaaDoor

namespace Go.Proofs.YtjbmhbnlanbbkaaDoor
open Go.RowKit Go.MapKept

theorem run_bs1 (W : World) (c : Int) : (Instr.buildSlice 28 1 #[(0, .int .u8 c)]).run Tryd.prog W = .ok (.slice (some ⟨W.heap.size, 0, none⟩) 1 1) (W.alloc (.cells #[.int .u8 c] 5)) := by kernel_rfl
theorem run_bsK (W : World) (c : Bool) : (Instr.buildSlice 29 1 #[(0, .bool c)]).run Tryd.prog W = .ok (.slice (some ⟨W.heap.size, 0, none⟩) 1 1) (W.alloc (.cells #[.bool c] 4)) := by kernel_rfl
theorem x_bsc {P : Program} {w w2 : World} {t ty : TypeId} {d : Option Tmp} {p : String} {af : Array Edge} {gd : Option (Nat × Bool)} {ρ : Operand → Value} {c v : Value} (hc : ρ (.const c) = c) (hr : (Instr.buildSlice t 1 #[(0, c)]).run P w = .ok v w2) :
    (execOp ρ ⟨d, .buildSlice t 1 #[(0, .const c)], ty, p, af, gd⟩).run P w = .ok (.value v) w2 := by
  unfold execOp
  dsimp only
  simp only [List.map_toArray, List.map_cons, List.map_nil, hc, Sem.run_bind, hr]
  rfl
theorem rdb_mark (W : World) (u : UInt8) (c : Int) (hc : c = (u.toNat : Int)) (t : TypeId) (fr : Nat × Nat) : RdB (W.alloc (.cells #[.int .u8 c] t fr)).heap.size (W.alloc (.cells #[.int .u8 c] t fr)) (some ⟨W.heap.size, 0, none⟩) [u] := fun k x hx => by
  subst hc
  refine ⟨_, rfl, by simp, ?_⟩
  rw [Addr.add_mid, Nat.zero_add, World.cell?_alloc_mark]
  match k, hx with
  | 0, hx =>
    have e : u = x := by simpa using hx
    rw [← e]
    rfl
  | k + 1, hx => simp at hx
theorem rdk_one {W : World} {g : Nat} {u : Bool} {t : TypeId} (h : Blk W g #[.bool u] t) : RdK W.heap.size W (some ⟨g, 0, none⟩) [u] := fun k x hx => by
  refine ⟨_, rfl, h.lt, ?_⟩
  rw [Addr.add_mid, Nat.zero_add, h.cell k]
  match k, hx with
  | 0, hx =>
    have e : u = x := by simpa using hx
    rw [← e]
    rfl
  | k + 1, hx => simp at hx
abbrev aw1 : Sl := wrM sl0 1 0 [97]
abbrev aw2 : Sl := flM aw1 1
abbrev aw3 : Sl := wrM aw2 1 0 [98]
theorem aw_c1 : wrCode sl0 1 0 [97] = 0 := by decide +kernel
theorem aw_c2 : rmCode aw1 1 = 0 := by decide +kernel
theorem aw_c3 : wrCode aw2 1 0 [98] = 0 := by decide +kernel
theorem aw_p : placeB 1 0 = true := by decide
theorem aw_l1 : sl0.pend.length ≤ 1000000 := by decide +kernel
theorem aw_l2 : aw2.pend.length ≤ 1000000 := by decide +kernel
theorem aw_a : blkD (aw3.crash []).seen 1 0 = padL [97] := by decide +kernel
theorem aw_b : blkD (aw3.crash [true]).seen 1 0 = padL [98] := by decide +kernel
/-- What a look at a block answers. -/
def RdO (l : List UInt8) (w : World) (v : Value) (w' : World) : Prop := ∃ g, v = .tuple #[.slice (some ⟨g, 0, none⟩) 64 64, .int .i64 0] ∧ Blk w' g (bkA l) 59 ∧ Below w.heap.size w w'
theorem read_ok {vs : Array Value} {f b : Int} {M : Sl} {l : List UInt8} {w : World} (hp : placeB f b = true) (hl : blkD M.seen f b = l) (h : Calls Tryd.prog 14 vs w fun e w' => ReadR M f b w e w') : Calls Tryd.prog 14 vs w fun e w' => ∃ v, e = .returned v ∧ RdO l w v w' := h.mono fun _ _ hr => by
  unfold ReadR at hr
  rw [hp, hl] at hr
  obtain ⟨⟨g, he, hY, _⟩, hb⟩ := hr
  exact ⟨_, he, g, rfl, hY, hb⟩
theorem load_u8 {W : World} {a : Addr} {c : Int} (h : W.cell? a = some (.int .u8 c)) : (Instr.loadAt 5 (.pointer (some a))).run Tryd.prog W = .ok (.int .u8 c) W := by
  go_simp
theorem bk_a0 : (bkA (padL [97]))[0]? = some (.int .u8 97) := by kernel_rfl
theorem bk_a1 : (bkA (padL [97]))[1]? = some (.int .u8 0) := by kernel_rfl
theorem bk_b0 : (bkA (padL [98]))[0]? = some (.int .u8 98) := by kernel_rfl
theorem enters_awake9 : ∀ args w, (callFunc 5 args).run Tryd.prog w = .ok (.enter 5 args) w := enters_of Tryd.func5 (by kernel_rfl) rfl

/-- A call that turns a slate. -/
def TurnR (B s : Nat) (c : Int) (M : Sl) (w : World) (v : Value) (w' : World) : Prop := v = .int .i64 c ∧ SlR B w' s M ∧ StK B w w'
set_option maxRecDepth 100000 in
set_option maxHeartbeats 4000000 in
theorem awake9_any (S : Addr) (w : World) (hE : LaidE S w) : Calls Tryd.prog 5 #[] w fun e w' => e = .returned (.bool true) ∧ Below w.heap.size w w' := by
  have hg : 0 < w.heap.size := World.block_lt_of_cell? w _ hE
  go_enter Tryd.func5, Tryd.ntmps5
  go_upto_region 1 with fail
  refine wp_region_lit ?_
  refine fl_start ?_
  generalize ha : Act.mk _ _ = a0
  have hn : a0.tmps.size = 77 := by rw [← ha]; kernel_rfl
  refine g_cvx enters_New hn (vs := #[]) (fun _ => by simp) (new_any w) ?_
  rintro v w1 ⟨s, rfl, hR1, hb1⟩
  repeat first | refine g_mv hn ?_ | refine g_as hn ?_ | refine g_fd hn ?_ | refine g_ld hn ?_ | refine g_nc hn ?_ | refine g_nt hn ?_ | refine g_an hn ?_ | refine g_or hn ?_ | refine g_ln hn ?_ | refine g_ex hn ?_ | refine g_neq2 hn ?_ | refine g_neq hn ?_ | refine g_eql2 hn ?_ | refine g_eql hn ?_ | refine g_leq2 hn ?_ | refine g_leq hn ?_ | refine g_lss2 hn ?_ | refine g_lss hn ?_ | refine g_gtr2 hn ?_ | refine g_gtr hn ?_ | refine g_geq2 hn ?_ | refine g_geq hn ?_ | refine g_b0 hn ?_ | refine g_bn hn ?_ | refine g_bc hn ?_ | refine g_cv hn ?_ | refine g_ac hn ?_ | refine g_mc hn ?_
  refine fl_end ?_
  clear hn
  subst ha
  dsimp only [fr, cnd, Act.put, cond_true]
  simp only [List.setIfInBounds_toArray, List.set_cons_zero, List.set_cons_succ]
  have hE1 := hE.keep hb1
  have hK1 : StK w.heap.size w w1 := StK.of_below hb1 (Nat.le_refl _)
  clear hb1
  have HBw : Hid (w.heap.size = w.heap.size) := rfl
  generalize hB : w.heap.size = B at hg hR1 hK1
  go_upto_region 2 with fail
  refine wp_region_lit ?_
  refine fl_start ?_
  generalize ha : Act.mk _ _ = a0
  have hn : a0.tmps.size = 77 := by rw [← ha]; kernel_rfl
  have h1 : (fr a0 []).eval (.tmp 1) = .pointer (some ⟨s, 0, none⟩) := by rw [← ha]; kernel_rfl
  refine fl_know hn rfl h1 ?_
  clear h1
  repeat first | refine g_mv hn ?_ | refine g_as hn ?_ | refine g_fd hn ?_ | refine g_ld hn ?_ | refine g_nc hn ?_ | refine g_nt hn ?_ | refine g_an hn ?_ | refine g_or hn ?_ | refine g_ln hn ?_ | refine g_ex hn ?_ | refine g_neq2 hn ?_ | refine g_neq hn ?_ | refine g_eql2 hn ?_ | refine g_eql hn ?_ | refine g_leq2 hn ?_ | refine g_leq hn ?_ | refine g_lss2 hn ?_ | refine g_lss hn ?_ | refine g_gtr2 hn ?_ | refine g_gtr hn ?_ | refine g_geq2 hn ?_ | refine g_geq hn ?_ | refine g_b0 hn ?_ | refine g_bn hn ?_ | refine g_bc hn ?_ | refine g_cv hn ?_ | refine g_ac hn ?_ | refine g_mc hn ?_
  refine g_o1 hn (i := 9) (vi := .pointer (some ⟨s, 0, none⟩)) (v := .bool false) (fun ρ h hc => by unfold execOp; dsimp only; rw [h, hc]; kernel_rfl) ?_
  repeat first | refine g_mv hn ?_ | refine g_as hn ?_ | refine g_fd hn ?_ | refine g_ld hn ?_ | refine g_nc hn ?_ | refine g_nt hn ?_ | refine g_an hn ?_ | refine g_or hn ?_ | refine g_ln hn ?_ | refine g_ex hn ?_ | refine g_neq2 hn ?_ | refine g_neq hn ?_ | refine g_eql2 hn ?_ | refine g_eql hn ?_ | refine g_leq2 hn ?_ | refine g_leq hn ?_ | refine g_lss2 hn ?_ | refine g_lss hn ?_ | refine g_gtr2 hn ?_ | refine g_gtr hn ?_ | refine g_geq2 hn ?_ | refine g_geq hn ?_ | refine g_b0 hn ?_ | refine g_bn hn ?_ | refine g_bc hn ?_ | refine g_cv hn ?_ | refine g_ac hn ?_ | refine g_mc hn ?_
  refine g_w hn (w2 := w1.alloc (.cells #[.int .u8 97] 5)) (v := .slice (some ⟨w1.heap.size, 0, none⟩) 1 1) (fun _ => x_bsc rfl (run_bs1 w1 97)) ?_
  refine g_w hn (w2 := w1.alloc (.cells #[.int .u8 97] 5 (1, 2))) (v := .slice (some ⟨w1.heap.size, 0, none⟩) 1 1) (fun hk => by unfold execOp; dsimp only; rw [lk_at hk (i := 13) rfl (fun _ => rfl) rfl, Sem.run_bind, Lib.run_convert_bytes_const w1 28 5 #[.int .u8 97] 1 1 (by kernel_rfl) (by kernel_rfl)]; rfl) ?_
  have hY := rdb_mark w1 97 97 (by decide) 5 (1, 2)
  have hb := b0 w1 (.cells #[.int .u8 97] 5 (1, 2))
  generalize w1.alloc (.cells #[.int .u8 97] 5 (1, 2)) = w2 at hY hb ⊢
  generalize w1.heap.size = y at hY ⊢
  have hR2 := hR1.below hb
  have hK2 := hK1.trans (StK.of_below hb hR1.size)
  have hE2 := hE1.keep hb
  clear hR1 hK1 hE1 hb
  refine g_cvx enters_Write hn (fun hk => by simp only [List.map_toArray, List.map_cons, List.map_nil, lk_at hk (i := 12) rfl (fun _ => rfl) rfl, lk_at hk (i := 14) rfl (fun _ => rfl) rfl]; rfl) (R := TurnR B s 0 aw1 w2) ((write_any S B s sl0 1 0 (some ⟨y, 0, none⟩) 1 1 [97] w2 hR2 hE2 hg rfl hY aw_l1 (by omega)).mono fun _ _ ⟨he, h1, h2⟩ => ⟨_, he, by rw [aw_c1], h1, h2⟩) ?_
  rintro v w3 ⟨rfl, hR3, hK3⟩
  replace hK3 := hK2.trans hK3
  have hE3 := hE.stk hK3 hg
  clear hR2 hK2 hE2 hY
  refine g_o1 hn (i := 15) (vi := .int .i64 0) (v := .bool false) (fun ρ h hc => by unfold execOp; dsimp only; rw [h, hc]; kernel_rfl) ?_
  repeat first | refine g_mv hn ?_ | refine g_as hn ?_ | refine g_fd hn ?_ | refine g_ld hn ?_ | refine g_nc hn ?_ | refine g_nt hn ?_ | refine g_an hn ?_ | refine g_or hn ?_ | refine g_ln hn ?_ | refine g_ex hn ?_ | refine g_neq2 hn ?_ | refine g_neq hn ?_ | refine g_eql2 hn ?_ | refine g_eql hn ?_ | refine g_leq2 hn ?_ | refine g_leq hn ?_ | refine g_lss2 hn ?_ | refine g_lss hn ?_ | refine g_gtr2 hn ?_ | refine g_gtr hn ?_ | refine g_geq2 hn ?_ | refine g_geq hn ?_ | refine g_b0 hn ?_ | refine g_bn hn ?_ | refine g_bc hn ?_ | refine g_cv hn ?_ | refine g_ac hn ?_ | refine g_mc hn ?_
  refine g_cvx enters_Flush hn (fun hk => by simp only [List.map_toArray, List.map_cons, List.map_nil, lk_at hk (i := 19) rfl (fun _ => rfl) rfl]; rfl) (R := TurnR B s 0 aw2 w3) ((flush_any S B s aw1 1 w3 hR3 hE3 hg).mono fun _ _ ⟨he, h1, h2⟩ => ⟨_, he, by rw [aw_c2], h1, h2⟩) ?_
  rintro v w4 ⟨rfl, hR4, hK4⟩
  replace hK4 := hK3.trans hK4
  clear hR3 hK3 hE3
  refine g_o1 hn (i := 20) (vi := .int .i64 0) (v := .bool false) (fun ρ h hc => by unfold execOp; dsimp only; rw [h, hc]; kernel_rfl) ?_
  repeat first | refine g_mv hn ?_ | refine g_as hn ?_ | refine g_fd hn ?_ | refine g_ld hn ?_ | refine g_nc hn ?_ | refine g_nt hn ?_ | refine g_an hn ?_ | refine g_or hn ?_ | refine g_ln hn ?_ | refine g_ex hn ?_ | refine g_neq2 hn ?_ | refine g_neq hn ?_ | refine g_eql2 hn ?_ | refine g_eql hn ?_ | refine g_leq2 hn ?_ | refine g_leq hn ?_ | refine g_lss2 hn ?_ | refine g_lss hn ?_ | refine g_gtr2 hn ?_ | refine g_gtr hn ?_ | refine g_geq2 hn ?_ | refine g_geq hn ?_ | refine g_b0 hn ?_ | refine g_bn hn ?_ | refine g_bc hn ?_ | refine g_cv hn ?_ | refine g_ac hn ?_ | refine g_mc hn ?_
  refine g_w hn (w2 := w4.alloc (.cells #[.int .u8 98] 5)) (v := .slice (some ⟨w4.heap.size, 0, none⟩) 1 1) (fun _ => x_bsc rfl (run_bs1 w4 98)) ?_
  refine g_w hn (w2 := w4.alloc (.cells #[.int .u8 98] 5 (1, 2))) (v := .slice (some ⟨w4.heap.size, 0, none⟩) 1 1) (fun hk => by unfold execOp; dsimp only; rw [lk_at hk (i := 25) rfl (fun _ => rfl) rfl, Sem.run_bind, Lib.run_convert_bytes_const w4 28 5 #[.int .u8 98] 1 1 (by kernel_rfl) (by kernel_rfl)]; rfl) ?_
  have hY := rdb_mark w4 98 98 (by decide) 5 (1, 2)
  have hb := b0 w4 (.cells #[.int .u8 98] 5 (1, 2))
  generalize w4.alloc (.cells #[.int .u8 98] 5 (1, 2)) = w5 at hY hb ⊢
  generalize w4.heap.size = y2 at hY ⊢
  have hR5 := hR4.below hb
  have hK5 := hK4.trans (StK.of_below hb hR4.size)
  have hE5 := hE.stk hK5 hg
  clear hR4 hK4 hb
  refine g_cvx enters_Write hn (fun hk => by simp only [List.map_toArray, List.map_cons, List.map_nil, lk_at hk (i := 24) rfl (fun _ => rfl) rfl, lk_at hk (i := 26) rfl (fun _ => rfl) rfl]; rfl) (R := TurnR B s 0 aw3 w5) ((write_any S B s aw2 1 0 (some ⟨y2, 0, none⟩) 1 1 [98] w5 hR5 hE5 hg rfl hY aw_l2 (by omega)).mono fun _ _ ⟨he, h1, h2⟩ => ⟨_, he, by rw [aw_c3], h1, h2⟩) ?_
  rintro v w6 ⟨rfl, hR6, hK6⟩
  replace hK6 := hK5.trans hK6
  clear hR5 hK5 hE5 hY
  refine g_o1 hn (i := 27) (vi := .int .i64 0) (v := .bool false) (fun ρ h hc => by unfold execOp; dsimp only; rw [h, hc]; kernel_rfl) ?_
  repeat first | refine g_mv hn ?_ | refine g_as hn ?_ | refine g_fd hn ?_ | refine g_ld hn ?_ | refine g_nc hn ?_ | refine g_nt hn ?_ | refine g_an hn ?_ | refine g_or hn ?_ | refine g_ln hn ?_ | refine g_ex hn ?_ | refine g_neq2 hn ?_ | refine g_neq hn ?_ | refine g_eql2 hn ?_ | refine g_eql hn ?_ | refine g_leq2 hn ?_ | refine g_leq hn ?_ | refine g_lss2 hn ?_ | refine g_lss hn ?_ | refine g_gtr2 hn ?_ | refine g_gtr hn ?_ | refine g_geq2 hn ?_ | refine g_geq hn ?_ | refine g_b0 hn ?_ | refine g_bn hn ?_ | refine g_bc hn ?_ | refine g_cv hn ?_ | refine g_ac hn ?_ | refine g_mc hn ?_
  refine fl_end ?_
  clear hn
  subst ha
  dsimp only [fr, cnd, Act.put, cond_true]
  simp only [List.setIfInBounds_toArray, List.set_cons_zero, List.set_cons_succ]
  clear HBw
  go_upto_region 4 with fail
  refine wp_region_lit ?_
  refine fl_start ?_
  generalize ha : Act.mk _ _ = a0
  have hn : a0.tmps.size = 77 := by rw [← ha]; kernel_rfl
  have h1 : (fr a0 []).eval (.tmp 1) = .pointer (some ⟨s, 0, none⟩) := by rw [← ha]; kernel_rfl
  refine fl_know hn rfl h1 ?_
  clear h1
  repeat first | refine g_mv hn ?_ | refine g_as hn ?_ | refine g_fd hn ?_ | refine g_ld hn ?_ | refine g_nc hn ?_ | refine g_nt hn ?_ | refine g_an hn ?_ | refine g_or hn ?_ | refine g_ln hn ?_ | refine g_ex hn ?_ | refine g_neq2 hn ?_ | refine g_neq hn ?_ | refine g_eql2 hn ?_ | refine g_eql hn ?_ | refine g_leq2 hn ?_ | refine g_leq hn ?_ | refine g_lss2 hn ?_ | refine g_lss hn ?_ | refine g_gtr2 hn ?_ | refine g_gtr hn ?_ | refine g_geq2 hn ?_ | refine g_geq hn ?_ | refine g_b0 hn ?_ | refine g_bn hn ?_ | refine g_bc hn ?_ | refine g_cv hn ?_ | refine g_ac hn ?_ | refine g_mc hn ?_
  refine g_cvx enters_Crash hn (fun hk => by simp only [List.map_toArray, List.map_cons, List.map_nil, lk_at hk (i := 30) rfl (fun _ => rfl) rfl]; rfl) (crash_any B s aw3 none 0 0 [] w6 hR6 rfl (RdK.nil _ _ _)) ?_
  rintro v w7 ⟨s2, rfl, hR7, hb7⟩
  have hR6b := hR6.below hb7
  repeat first | refine g_mv hn ?_ | refine g_as hn ?_ | refine g_fd hn ?_ | refine g_ld hn ?_ | refine g_nc hn ?_ | refine g_nt hn ?_ | refine g_an hn ?_ | refine g_or hn ?_ | refine g_ln hn ?_ | refine g_ex hn ?_ | refine g_neq2 hn ?_ | refine g_neq hn ?_ | refine g_eql2 hn ?_ | refine g_eql hn ?_ | refine g_leq2 hn ?_ | refine g_leq hn ?_ | refine g_lss2 hn ?_ | refine g_lss hn ?_ | refine g_gtr2 hn ?_ | refine g_gtr hn ?_ | refine g_geq2 hn ?_ | refine g_geq hn ?_ | refine g_b0 hn ?_ | refine g_bn hn ?_ | refine g_bc hn ?_ | refine g_cv hn ?_ | refine g_ac hn ?_ | refine g_mc hn ?_
  refine g_w hn (w2 := w7.alloc (.cells #[.bool true] 4)) (v := .slice (some ⟨w7.heap.size, 0, none⟩) 1 1) (fun _ => x_bsc rfl (run_bsK w7 true)) ?_
  have hY := blk_new w7 #[.bool true] 4
  have hb := b0 w7 (.cells #[.bool true] 4)
  generalize w7.alloc (.cells #[.bool true] 4) = w8 at hY hb ⊢
  generalize w7.heap.size = y3 at hY ⊢
  have hR8 := hR6b.below hb
  have hR7b := hR7.below hb
  repeat first | refine g_mv hn ?_ | refine g_as hn ?_ | refine g_fd hn ?_ | refine g_ld hn ?_ | refine g_nc hn ?_ | refine g_nt hn ?_ | refine g_an hn ?_ | refine g_or hn ?_ | refine g_ln hn ?_ | refine g_ex hn ?_ | refine g_neq2 hn ?_ | refine g_neq hn ?_ | refine g_eql2 hn ?_ | refine g_eql hn ?_ | refine g_leq2 hn ?_ | refine g_leq hn ?_ | refine g_lss2 hn ?_ | refine g_lss hn ?_ | refine g_gtr2 hn ?_ | refine g_gtr hn ?_ | refine g_geq2 hn ?_ | refine g_geq hn ?_ | refine g_b0 hn ?_ | refine g_bn hn ?_ | refine g_bc hn ?_ | refine g_cv hn ?_ | refine g_ac hn ?_ | refine g_mc hn ?_
  refine g_cvx enters_Crash hn (fun hk => by simp only [List.map_toArray, List.map_cons, List.map_nil, lk_at hk (i := 32) rfl (fun _ => rfl) rfl, lk_at hk (i := 33) rfl (fun _ => rfl) rfl]) (crash_any B s aw3 (some ⟨y3, 0, none⟩) 1 1 [true] w8 hR8 rfl (rdk_one hY)) ?_
  rintro v w9 ⟨s3, rfl, hR9, hb9⟩
  have hR7c := hR7b.below hb9
  have hB9 : Below B w w9 := ((hK6.bel.trans (hb7.mono hR6.size)).trans (hb.mono hR6b.size)).trans (hb9.mono hR8.size)
  clear hR6 hR6b hR7 hR7b hR8 hY hb hb7 hb9 hK6
  repeat first | refine g_mv hn ?_ | refine g_as hn ?_ | refine g_fd hn ?_ | refine g_ld hn ?_ | refine g_nc hn ?_ | refine g_nt hn ?_ | refine g_an hn ?_ | refine g_or hn ?_ | refine g_ln hn ?_ | refine g_ex hn ?_ | refine g_neq2 hn ?_ | refine g_neq hn ?_ | refine g_eql2 hn ?_ | refine g_eql hn ?_ | refine g_leq2 hn ?_ | refine g_leq hn ?_ | refine g_lss2 hn ?_ | refine g_lss hn ?_ | refine g_gtr2 hn ?_ | refine g_gtr hn ?_ | refine g_geq2 hn ?_ | refine g_geq hn ?_ | refine g_b0 hn ?_ | refine g_bn hn ?_ | refine g_bc hn ?_ | refine g_cv hn ?_ | refine g_ac hn ?_ | refine g_mc hn ?_
  refine fl_end ?_
  clear hn
  subst ha
  dsimp only [fr, cnd, Act.put, cond_true]
  simp only [List.setIfInBounds_toArray, List.set_cons_zero, List.set_cons_succ]
  go_upto_region 5 with fail
  refine wp_region_lit ?_
  refine fl_start ?_
  generalize ha : Act.mk _ _ = a0
  have hn : a0.tmps.size = 77 := by rw [← ha]; kernel_rfl
  have h2 : (fr a0 []).eval (.tmp 2) = .pointer (some ⟨s2, 0, none⟩) := by rw [← ha]; kernel_rfl
  refine fl_know hn rfl h2 ?_
  clear h2
  have h3 : (fr a0 [(2, true, .pointer (some ⟨s2, 0, none⟩))]).eval (.tmp 3) = .pointer (some ⟨s3, 0, none⟩) := by rw [← ha]; kernel_rfl
  refine fl_know hn rfl h3 ?_
  clear h3
  repeat first | refine g_mv hn ?_ | refine g_as hn ?_ | refine g_fd hn ?_ | refine g_ld hn ?_ | refine g_nc hn ?_ | refine g_nt hn ?_ | refine g_an hn ?_ | refine g_or hn ?_ | refine g_ln hn ?_ | refine g_ex hn ?_ | refine g_neq2 hn ?_ | refine g_neq hn ?_ | refine g_eql2 hn ?_ | refine g_eql hn ?_ | refine g_leq2 hn ?_ | refine g_leq hn ?_ | refine g_lss2 hn ?_ | refine g_lss hn ?_ | refine g_gtr2 hn ?_ | refine g_gtr hn ?_ | refine g_geq2 hn ?_ | refine g_geq hn ?_ | refine g_b0 hn ?_ | refine g_bn hn ?_ | refine g_bc hn ?_ | refine g_cv hn ?_ | refine g_ac hn ?_ | refine g_mc hn ?_
  refine g_o1 hn (i := 35) (vi := .pointer (some ⟨s2, 0, none⟩)) (v := .bool false) (fun ρ h hc => by unfold execOp; dsimp only; rw [h, hc]; kernel_rfl) ?_
  repeat first | refine g_mv hn ?_ | refine g_as hn ?_ | refine g_fd hn ?_ | refine g_ld hn ?_ | refine g_nc hn ?_ | refine g_nt hn ?_ | refine g_an hn ?_ | refine g_or hn ?_ | refine g_ln hn ?_ | refine g_ex hn ?_ | refine g_neq2 hn ?_ | refine g_neq hn ?_ | refine g_eql2 hn ?_ | refine g_eql hn ?_ | refine g_leq2 hn ?_ | refine g_leq hn ?_ | refine g_lss2 hn ?_ | refine g_lss hn ?_ | refine g_gtr2 hn ?_ | refine g_gtr hn ?_ | refine g_geq2 hn ?_ | refine g_geq hn ?_ | refine g_b0 hn ?_ | refine g_bn hn ?_ | refine g_bc hn ?_ | refine g_cv hn ?_ | refine g_ac hn ?_ | refine g_mc hn ?_
  refine g_o1 hn (i := 38) (vi := .pointer (some ⟨s3, 0, none⟩)) (v := .bool false) (fun ρ h hc => by unfold execOp; dsimp only; rw [h, hc]; kernel_rfl) ?_
  repeat first | refine g_mv hn ?_ | refine g_as hn ?_ | refine g_fd hn ?_ | refine g_ld hn ?_ | refine g_nc hn ?_ | refine g_nt hn ?_ | refine g_an hn ?_ | refine g_or hn ?_ | refine g_ln hn ?_ | refine g_ex hn ?_ | refine g_neq2 hn ?_ | refine g_neq hn ?_ | refine g_eql2 hn ?_ | refine g_eql hn ?_ | refine g_leq2 hn ?_ | refine g_leq hn ?_ | refine g_lss2 hn ?_ | refine g_lss hn ?_ | refine g_gtr2 hn ?_ | refine g_gtr hn ?_ | refine g_geq2 hn ?_ | refine g_geq hn ?_ | refine g_b0 hn ?_ | refine g_bn hn ?_ | refine g_bc hn ?_ | refine g_cv hn ?_ | refine g_ac hn ?_ | refine g_mc hn ?_
  refine fl_end ?_
  clear hn
  subst ha
  dsimp only [fr, cnd, Act.put, cond_true]
  simp only [List.setIfInBounds_toArray, List.set_cons_zero, List.set_cons_succ]
  go_upto_region 7 with fail
  refine wp_region_lit ?_
  refine fl_start ?_
  generalize ha : Act.mk _ _ = a0
  have hn : a0.tmps.size = 77 := by rw [← ha]; kernel_rfl
  have h2 : (fr a0 []).eval (.tmp 2) = .pointer (some ⟨s2, 0, none⟩) := by rw [← ha]; kernel_rfl
  refine fl_know hn rfl h2 ?_
  clear h2
  repeat first | refine g_mv hn ?_ | refine g_as hn ?_ | refine g_fd hn ?_ | refine g_ld hn ?_ | refine g_nc hn ?_ | refine g_nt hn ?_ | refine g_an hn ?_ | refine g_or hn ?_ | refine g_ln hn ?_ | refine g_ex hn ?_ | refine g_neq2 hn ?_ | refine g_neq hn ?_ | refine g_eql2 hn ?_ | refine g_eql hn ?_ | refine g_leq2 hn ?_ | refine g_leq hn ?_ | refine g_lss2 hn ?_ | refine g_lss hn ?_ | refine g_gtr2 hn ?_ | refine g_gtr hn ?_ | refine g_geq2 hn ?_ | refine g_geq hn ?_ | refine g_b0 hn ?_ | refine g_bn hn ?_ | refine g_bc hn ?_ | refine g_cv hn ?_ | refine g_ac hn ?_ | refine g_mc hn ?_
  refine g_cvx enters_Read hn (fun hk => by simp only [List.map_toArray, List.map_cons, List.map_nil, lk_at hk (i := 42) rfl (fun _ => rfl) rfl]; rfl) (R := RdO (padL [97]) w9) (read_ok aw_p aw_a (read_any _ s2 _ 1 0 w9 hR7c)) ?_
  rintro v w10 ⟨g1, rfl, hY1, hb10⟩
  have hR10 := hR9.below hb10
  have hB10 := hB9.trans (hb10.mono (by rw [← hB]; exact hB9.size))
  repeat first | refine g_mv hn ?_ | refine g_as hn ?_ | refine g_fd hn ?_ | refine g_ld hn ?_ | refine g_nc hn ?_ | refine g_nt hn ?_ | refine g_an hn ?_ | refine g_or hn ?_ | refine g_ln hn ?_ | refine g_ex hn ?_ | refine g_neq2 hn ?_ | refine g_neq hn ?_ | refine g_eql2 hn ?_ | refine g_eql hn ?_ | refine g_leq2 hn ?_ | refine g_leq hn ?_ | refine g_lss2 hn ?_ | refine g_lss hn ?_ | refine g_gtr2 hn ?_ | refine g_gtr hn ?_ | refine g_geq2 hn ?_ | refine g_geq hn ?_ | refine g_b0 hn ?_ | refine g_bn hn ?_ | refine g_bc hn ?_ | refine g_cv hn ?_ | refine g_ac hn ?_ | refine g_mc hn ?_
  refine fl_end ?_
  clear hn
  subst ha
  dsimp only [fr, cnd, Act.put, cond_true]
  simp only [List.setIfInBounds_toArray, List.set_cons_zero, List.set_cons_succ]
  clear hR9 hR7c hb10 hB9
  go_upto_region 8 with fail
  refine wp_region_lit ?_
  refine fl_start ?_
  generalize ha : Act.mk _ _ = a0
  have hn : a0.tmps.size = 77 := by rw [← ha]; kernel_rfl
  have h3 : (fr a0 []).eval (.tmp 3) = .pointer (some ⟨s3, 0, none⟩) := by rw [← ha]; kernel_rfl
  refine fl_know hn rfl h3 ?_
  clear h3
  repeat first | refine g_mv hn ?_ | refine g_as hn ?_ | refine g_fd hn ?_ | refine g_ld hn ?_ | refine g_nc hn ?_ | refine g_nt hn ?_ | refine g_an hn ?_ | refine g_or hn ?_ | refine g_ln hn ?_ | refine g_ex hn ?_ | refine g_neq2 hn ?_ | refine g_neq hn ?_ | refine g_eql2 hn ?_ | refine g_eql hn ?_ | refine g_leq2 hn ?_ | refine g_leq hn ?_ | refine g_lss2 hn ?_ | refine g_lss hn ?_ | refine g_gtr2 hn ?_ | refine g_gtr hn ?_ | refine g_geq2 hn ?_ | refine g_geq hn ?_ | refine g_b0 hn ?_ | refine g_bn hn ?_ | refine g_bc hn ?_ | refine g_cv hn ?_ | refine g_ac hn ?_ | refine g_mc hn ?_
  refine g_cvx enters_Read hn (fun hk => by simp only [List.map_toArray, List.map_cons, List.map_nil, lk_at hk (i := 47) rfl (fun _ => rfl) rfl]; rfl) (R := RdO (padL [98]) w10) (read_ok aw_p aw_b (read_any _ s3 _ 1 0 w10 hR10)) ?_
  rintro v w11 ⟨g2, rfl, hY2, hb11⟩
  have hY1b := hY1.keep hb11
  have hB11 := hB10.trans (hb11.mono (by rw [← hB]; exact hB10.size))
  repeat first | refine g_mv hn ?_ | refine g_as hn ?_ | refine g_fd hn ?_ | refine g_ld hn ?_ | refine g_nc hn ?_ | refine g_nt hn ?_ | refine g_an hn ?_ | refine g_or hn ?_ | refine g_ln hn ?_ | refine g_ex hn ?_ | refine g_neq2 hn ?_ | refine g_neq hn ?_ | refine g_eql2 hn ?_ | refine g_eql hn ?_ | refine g_leq2 hn ?_ | refine g_leq hn ?_ | refine g_lss2 hn ?_ | refine g_lss hn ?_ | refine g_gtr2 hn ?_ | refine g_gtr hn ?_ | refine g_geq2 hn ?_ | refine g_geq hn ?_ | refine g_b0 hn ?_ | refine g_bn hn ?_ | refine g_bc hn ?_ | refine g_cv hn ?_ | refine g_ac hn ?_ | refine g_mc hn ?_
  refine fl_end ?_
  clear hn
  subst ha
  dsimp only [fr, cnd, Act.put, cond_true]
  simp only [List.setIfInBounds_toArray, List.set_cons_zero, List.set_cons_succ]
  have l1 := load_u8 ((hY1b.cell 0).trans bk_a0)
  have l2 := load_u8 ((hY1b.cell 1).trans bk_a1)
  have l3 := load_u8 ((hY2.cell 0).trans bk_b0)
  clear hR10 hY1 hb11 hB10 hY2 hY1b
  go_upto_region 9 with fail
  refine wp_region_lit ?_
  refine fl_start ?_
  generalize ha : Act.mk _ _ = a0
  have hn : a0.tmps.size = 77 := by rw [← ha]; kernel_rfl
  have h4 : (fr a0 []).eval (.tmp 4) = .slice (some ⟨g1, 0, none⟩) 64 64 := by rw [← ha]; kernel_rfl
  refine fl_know hn rfl h4 ?_
  clear h4
  have h6 : (fr a0 [(4, true, .slice (some ⟨g1, 0, none⟩) 64 64)]).eval (.tmp 6) = .slice (some ⟨g2, 0, none⟩) 64 64 := by rw [← ha]; kernel_rfl
  refine fl_know hn rfl h6 ?_
  clear h6
  repeat first | refine g_mv hn ?_ | refine g_as hn ?_ | refine g_fd hn ?_ | refine g_ld hn ?_ | refine g_nc hn ?_ | refine g_nt hn ?_ | refine g_an hn ?_ | refine g_or hn ?_ | refine g_ln hn ?_ | refine g_ex hn ?_ | refine g_neq2 hn ?_ | refine g_neq hn ?_ | refine g_eql2 hn ?_ | refine g_eql hn ?_ | refine g_leq2 hn ?_ | refine g_leq hn ?_ | refine g_lss2 hn ?_ | refine g_lss hn ?_ | refine g_gtr2 hn ?_ | refine g_gtr hn ?_ | refine g_geq2 hn ?_ | refine g_geq hn ?_ | refine g_b0 hn ?_ | refine g_bn hn ?_ | refine g_bc hn ?_ | refine g_cv hn ?_ | refine g_ac hn ?_ | refine g_mc hn ?_
  refine g_o1 hn (i := 55) (vi := .slice (some ⟨g1, 0, none⟩) 64 64) (v := .pointer (some ⟨g1, 0, none⟩)) (fun ρ h hc => by unfold execOp; dsimp only; rw [h, hc]; kernel_rfl) ?_
  repeat first | refine g_mv hn ?_ | refine g_as hn ?_ | refine g_fd hn ?_ | refine g_ld hn ?_ | refine g_nc hn ?_ | refine g_nt hn ?_ | refine g_an hn ?_ | refine g_or hn ?_ | refine g_ln hn ?_ | refine g_ex hn ?_ | refine g_neq2 hn ?_ | refine g_neq hn ?_ | refine g_eql2 hn ?_ | refine g_eql hn ?_ | refine g_leq2 hn ?_ | refine g_leq hn ?_ | refine g_lss2 hn ?_ | refine g_lss hn ?_ | refine g_gtr2 hn ?_ | refine g_gtr hn ?_ | refine g_geq2 hn ?_ | refine g_geq hn ?_ | refine g_b0 hn ?_ | refine g_bn hn ?_ | refine g_bc hn ?_ | refine g_cv hn ?_ | refine g_ac hn ?_ | refine g_mc hn ?_
  refine g_o1 hn (i := 57) (vi := .int .u8 97) (v := .bool true) (fun ρ h hc => by unfold execOp; dsimp only; rw [h, hc]; kernel_rfl) ?_
  repeat first | refine g_mv hn ?_ | refine g_as hn ?_ | refine g_fd hn ?_ | refine g_ld hn ?_ | refine g_nc hn ?_ | refine g_nt hn ?_ | refine g_an hn ?_ | refine g_or hn ?_ | refine g_ln hn ?_ | refine g_ex hn ?_ | refine g_neq2 hn ?_ | refine g_neq hn ?_ | refine g_eql2 hn ?_ | refine g_eql hn ?_ | refine g_leq2 hn ?_ | refine g_leq hn ?_ | refine g_lss2 hn ?_ | refine g_lss hn ?_ | refine g_gtr2 hn ?_ | refine g_gtr hn ?_ | refine g_geq2 hn ?_ | refine g_geq hn ?_ | refine g_b0 hn ?_ | refine g_bn hn ?_ | refine g_bc hn ?_ | refine g_cv hn ?_ | refine g_ac hn ?_ | refine g_mc hn ?_
  refine g_o1 hn (i := 61) (vi := .slice (some ⟨g1, 0, none⟩) 64 64) (v := .pointer (some ⟨g1, 1, none⟩)) (fun ρ h hc => by unfold execOp; dsimp only; rw [h, hc]; kernel_rfl) ?_
  repeat first | refine g_mv hn ?_ | refine g_as hn ?_ | refine g_fd hn ?_ | refine g_ld hn ?_ | refine g_nc hn ?_ | refine g_nt hn ?_ | refine g_an hn ?_ | refine g_or hn ?_ | refine g_ln hn ?_ | refine g_ex hn ?_ | refine g_neq2 hn ?_ | refine g_neq hn ?_ | refine g_eql2 hn ?_ | refine g_eql hn ?_ | refine g_leq2 hn ?_ | refine g_leq hn ?_ | refine g_lss2 hn ?_ | refine g_lss hn ?_ | refine g_gtr2 hn ?_ | refine g_gtr hn ?_ | refine g_geq2 hn ?_ | refine g_geq hn ?_ | refine g_b0 hn ?_ | refine g_bn hn ?_ | refine g_bc hn ?_ | refine g_cv hn ?_ | refine g_ac hn ?_ | refine g_mc hn ?_
  refine g_o1 hn (i := 63) (vi := .int .u8 0) (v := .bool true) (fun ρ h hc => by unfold execOp; dsimp only; rw [h, hc]; kernel_rfl) ?_
  repeat first | refine g_mv hn ?_ | refine g_as hn ?_ | refine g_fd hn ?_ | refine g_ld hn ?_ | refine g_nc hn ?_ | refine g_nt hn ?_ | refine g_an hn ?_ | refine g_or hn ?_ | refine g_ln hn ?_ | refine g_ex hn ?_ | refine g_neq2 hn ?_ | refine g_neq hn ?_ | refine g_eql2 hn ?_ | refine g_eql hn ?_ | refine g_leq2 hn ?_ | refine g_leq hn ?_ | refine g_lss2 hn ?_ | refine g_lss hn ?_ | refine g_gtr2 hn ?_ | refine g_gtr hn ?_ | refine g_geq2 hn ?_ | refine g_geq hn ?_ | refine g_b0 hn ?_ | refine g_bn hn ?_ | refine g_bc hn ?_ | refine g_cv hn ?_ | refine g_ac hn ?_ | refine g_mc hn ?_
  refine g_o1 hn (i := 72) (vi := .slice (some ⟨g2, 0, none⟩) 64 64) (v := .pointer (some ⟨g2, 0, none⟩)) (fun ρ h hc => by unfold execOp; dsimp only; rw [h, hc]; kernel_rfl) ?_
  repeat first | refine g_mv hn ?_ | refine g_as hn ?_ | refine g_fd hn ?_ | refine g_ld hn ?_ | refine g_nc hn ?_ | refine g_nt hn ?_ | refine g_an hn ?_ | refine g_or hn ?_ | refine g_ln hn ?_ | refine g_ex hn ?_ | refine g_neq2 hn ?_ | refine g_neq hn ?_ | refine g_eql2 hn ?_ | refine g_eql hn ?_ | refine g_leq2 hn ?_ | refine g_leq hn ?_ | refine g_lss2 hn ?_ | refine g_lss hn ?_ | refine g_gtr2 hn ?_ | refine g_gtr hn ?_ | refine g_geq2 hn ?_ | refine g_geq hn ?_ | refine g_b0 hn ?_ | refine g_bn hn ?_ | refine g_bc hn ?_ | refine g_cv hn ?_ | refine g_ac hn ?_ | refine g_mc hn ?_
  refine g_o1 hn (i := 74) (vi := .int .u8 98) (v := .bool true) (fun ρ h hc => by unfold execOp; dsimp only; rw [h, hc]; kernel_rfl) ?_
  repeat first | refine g_mv hn ?_ | refine g_as hn ?_ | refine g_fd hn ?_ | refine g_ld hn ?_ | refine g_nc hn ?_ | refine g_nt hn ?_ | refine g_an hn ?_ | refine g_or hn ?_ | refine g_ln hn ?_ | refine g_ex hn ?_ | refine g_neq2 hn ?_ | refine g_neq hn ?_ | refine g_eql2 hn ?_ | refine g_eql hn ?_ | refine g_leq2 hn ?_ | refine g_leq hn ?_ | refine g_lss2 hn ?_ | refine g_lss hn ?_ | refine g_gtr2 hn ?_ | refine g_gtr hn ?_ | refine g_geq2 hn ?_ | refine g_geq hn ?_ | refine g_b0 hn ?_ | refine g_bn hn ?_ | refine g_bc hn ?_ | refine g_cv hn ?_ | refine g_ac hn ?_ | refine g_mc hn ?_
  refine fl_end ?_
  clear hn
  subst ha
  dsimp only [fr, cnd, Act.put, cond_true]
  simp only [List.setIfInBounds_toArray, List.set_cons_zero, List.set_cons_succ]
  clear l1 l2 l3
  go_wp2_with fail
  go_ret
  exact ⟨rfl, by rw [hB]; exact hB11⟩
end Go.Proofs.YtjbmhbnlanbbkaaDoor
