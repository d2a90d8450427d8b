/-
  WHAT IS PROVED: the document's digest of a cell. Conditions: those typed in each theorem.
-/
import Derived.Test.YtokkmofcijfmiabBuF
import Derived.Test.YtokkmofcijfmiabGQ3
namespace Go.Proofs.Ytokkmofcijfmiab
open Go.RowKit

theorem en_spinney_spinneyref28_cell : ∀ args w, (callFunc 47 args).run Try.prog w = .ok (.enter 47 args) w := enters_of Try.func47 (by kernel_rfl) rfl
theorem en_r28_Text : ∀ args w, (callFunc 69 args).run Try.prog w = .ok (.enter 69 args) w := enters_of Try.func69 (by kernel_rfl) rfl
theorem en_r28_Value : ∀ args w, (callFunc 70 args).run Try.prog w = .ok (.enter 70 args) w := enters_of Try.func70 (by kernel_rfl) rfl

theorem bs28B (w : World) : (Instr.buildSlice 58 0 #[]).run Try.prog w = .ok (.slice (some ⟨w.heap.size, 0, none⟩) 0 0) (w.alloc (.cells #[] 5)) := by kernel_rfl
theorem x_bs28 {w : World} {ρ : Operand → Value} {d : Option Tmp} {ty : TypeId} {p : String} {af : Array Edge} {gd : Option (Nat × Bool)} : (execOp ρ ⟨d, .buildSlice 58 0 #[], ty, p, af, gd⟩).run Try.prog w = .ok (.value (.slice (some ⟨w.heap.size, 0, none⟩) 0 0)) (w.alloc (.cells #[] 5)) := by
  unfold execOp
  dsimp only
  have e : (#[] : Array (Nat × Operand)).map (fun x => (x.fst, ρ x.snd)) = #[] := by simp
  have h := bs28B w
  rw [← e] at h
  rw [Sem.run_bind]
  refine (congrArg (fun r => Result.andThen r _) h).trans ?_
  rfl
theorem Below.undrewA (W : World) : Below W.heap.size W (W.drew.alloc (.cells #[] 5)) := bel_un29 (b0 W.drew _)
theorem shr_ne {ky : ByteArray} {k x : Int} {t : ByteArray} (h : k ≠ 0) : shr28 ky k x t = digL (textB ky.data.toList ++ valB k x t.data.toList) := by
  unfold shr28
  rw [if_neg h]
theorem shr_is {x : Cl} (h : x.good = true) : shrC x = digL (textB x.ky.data.toList ++ valB x.k x.x x.s.data.toList) := by
  have h0 : x.k ≠ 0 := by
    have h2 := (cl_in h).2.1
    omega
  exact shr_ne h0
set_option maxRecDepth 100000 in
set_option maxHeartbeats 4000000 in
theorem refCell_any (x : Cl) (w : World) (hgd : x.good = true) (hf : x.fits) : Calls Try.prog 47 #[.agg x.cells] w fun e w' => e = .returned (.int .u64 (shrC x : Nat)) ∧ Below w.heap.size w w' := by
  obtain ⟨i0, hi0, hz0, hz1, hz2⟩ := info_parts byt_info
  have HV := Lib.hid (shr_is hgd)
  have hg := cl_in hgd
  have hg0 := hg.2.2.2.2
  have hg5 := goodB_in hg0
  have hX0 := blk_new w x.cells 54
  have hB := b0 w (.cells x.cells 54)
  have hzz : (w.alloc (.cells x.cells 54)).heap.size = w.heap.size + 1 := by simp
  go_enter Try.func47, Try.ntmps47
  go_upto_region 1 with fail
  generalize (w.alloc (.cells x.cells 54)) = W0 at hX0 hB hzz ⊢
  generalize hb : w.heap.size = b at hX0 hB hzz ⊢
  have f0 : ∀ W, (fun W => Blk W b x.cells tCl) W → _ := fun W _ => fcl0 W b
  have f1 : ∀ W, (fun W => Blk W b x.cells tCl) W → _ := fun W _ => fcl1 W b
  have f3 : ∀ W, (fun W => Blk W b x.cells tCl) W → _ := fun W h => ld_ky h
  have f4 : ∀ W, (fun W => Blk W b x.cells tCl) W → _ := fun W h => ld_cv h
  refine fh_start (S := (fun W => Blk W b x.cells tCl)) (by kernel_rfl) (hX0) (fun hS => ?_)
  generalize ha : Act.mk _ _ = a0
  have hn : a0.tmps.size = 13 := by rw [← ha]; kernel_rfl
  have h1 : (fr a0 []).eval (.tmp 1) = .pointer (some ⟨b, 0, none⟩) := by rw [← ha]; kernel_rfl
  refine fh_know hn rfl h1 ?_
  clear h1
  refine h_fd 1 hn hS ?_
  refine h_ld 2 hn hS ?_
  refine h_fd 5 hn hS ?_
  refine h_ld 6 hn hS ?_
  refine fh_two (i := 0) (j := 3) (by kernel_rfl) ?_ ?_
  · have hSa : (fun W => Blk W b x.cells tCl) (W0.drew.alloc (.cells #[] 5)) := hX0.keep (Below.undrewA W0)
    refine one_valx (d := 3) (w2 := W0.drew.alloc (.cells #[] 5)) hn rfl (fun hk => x_bs28) hSa ?_ rfl rfl rfl
    have hBa : Below b w (W0.drew.alloc (.cells #[] 5)) := hB.trans ((Below.undrewA W0).mono (by have := hB.size; omega))
    have hg3 : ∃ g3, g3 = W0.drew.heap.size := ⟨_, rfl⟩
    obtain ⟨g3, hg3⟩ := hg3
    rw [← hg3]
    generalize W0.drew.alloc (.cells #[] 5) = Wa at hSa hBa ⊢
    refine h_c1 3 en_r28_Text hn (R := fun v w2 => ∃ A2 m2 c2, v = .slice A2 m2 c2 ∧ OwnB Wa.heap.size w2 A2 m2 c2 (textB x.ky.data.toList) ∧ m2 ≤ 1000009 ∧ Below Wa.heap.size Wa w2) ((refPText_b x.ky Wa (by omega)).mono fun _ _ ⟨⟨A, m, c, he, hO, hm⟩, hb⟩ => ⟨_, he, A, m, c, rfl, hO, hm, hb⟩) ?_
    rintro v v2 ⟨A2, m2, c2, rfl, hO2, hm2, hb2⟩
    have hB2 := hBa.trans (hb2.mono (by have := hBa.size; omega))
    refine ⟨hSa.keep hb2, ?_⟩
    have hS1 : (fun W => Blk W b x.cells tCl) v2 := hSa.keep hb2
    obtain ⟨A4, c4, w4, hr4, hO4, hb4, _⟩ := run_apP (P := Try.prog) (ty := 58) (base := v2.heap.size) (n := 0) (c := 0) (l := []) (m := m2) (d := c2) v2 Try.underlying58 Try.underlying58 hi0 hz0 hz1 hz2 (.inr ⟨RdB.nil _ _ (some ⟨g3, 0, none⟩), rfl, rfl, by omega⟩) hO2.rd hO2.len (by have := text_pos x.ky.data.toList; have := hO2.len; omega) (by omega) (Nat.le_refl _)
    have hS4 : (fun W => Blk W b x.cells tCl) w4 := hS1.keep hb4
    refine fh_valx 4 (d := 7) hn rfl (fun hk => x_ap (lk_at hk (i := 3) rfl (fun _ => rfl) rfl) (lk_at hk (i := 6) rfl (fun _ => rfl) rfl) hr4) hS4 ?_ rfl rfl (by kernel_rfl) rfl
    refine h_c1 7 en_r28_Value hn (R := fun v w5 => ∃ A5 m5 c5, v = .slice A5 m5 c5 ∧ OwnB w4.heap.size w5 A5 m5 c5 (valB x.k x.x x.s.data.toList) ∧ m5 ≤ 1000018 ∧ Below w4.heap.size w4 w5) ((refPValue_b x.k x.x x.s w4 hg5.1 hf.2.2.1 hf.2.2.2 (by omega)).mono fun _ _ ⟨⟨A, m, c, he, hO, hm⟩, hb⟩ => ⟨_, he, A, m, c, rfl, hO, hm, hb⟩) ?_
    rintro v w5 ⟨A5, m5, c5, rfl, hO5, hm5, hb5⟩
    have hS5 : (fun W => Blk W b x.cells tCl) w5 := hS4.keep hb5
    refine ⟨hS5, ?_⟩
    have hO45 := hO4.keep hb5
    obtain ⟨A6, c6, w6, hr6, hO6, hb6, _⟩ := run_apP (P := Try.prog) (ty := 58) (base := v2.heap.size) (n := 0 + m2) (m := m5) (d := c5) w5 Try.underlying58 Try.underlying58 hi0 hz0 hz1 hz2 (.inl hO45) hO5.rd hO5.len (by have := val_pos hg0; have := hO5.len; omega) (by omega) (by have := hb4.size; have := hb5.size; omega)
    have hS6 : (fun W => Blk W b x.cells tCl) w6 := by
      have hz1' := hS1.lt
      exact (hS5.keep' hb6 hz1')
    refine fh_valx 8 (d := 11) hn rfl (fun hk => x_ap (lk_at hk (i := 7) rfl (fun _ => rfl) rfl) (lk_at hk (i := 10) rfl (fun _ => rfl) rfl) hr6) hS6 ?_ rfl rfl (by kernel_rfl) rfl
    refine h_c1 9 en_spinney_spinneyref28_Digest hn (R := fun v w7 => v = .int .u64 (shrC x : Nat) ∧ w7 = w6) ((refDig_any A6 (0 + m2 + m5) c6 _ w6 hO6.len hO6.rd (by omega)).mono fun _ _ ⟨he, hw⟩ => ⟨_, he, by rw [HV.out]; rfl, hw.symm⟩) ?_
    rintro v w7 ⟨rfl, hw7⟩
    rw [hw7]
    clear hw7
    refine ⟨hS6, ?_⟩
    refine h_as 10 hn hS6 ?_
    refine fh_end (by kernel_rfl) ?_
    clear hn
    subst ha
    dsimp only [fr, cnd, Act.put, cond_true]
    simp only [List.setIfInBounds_toArray, List.set_cons_zero, List.set_cons_succ]
    have g2 := hB2.trans (hb4.mono (by have := hB2.size; omega))
    have g3' := g2.trans (hb5.mono (by have := g2.size; omega))
    have g4 := g3'.trans (hb6.mono (by have := hB2.size; omega))
    go_wp2_with fail
    go_ret
    exact ⟨rfl, by first | exact g4 | (rw [hb]; exact g4)⟩
  · refine one_callx29 (d := 6) (R := fun v w2 => ∃ A2 m2 c2, v = .slice A2 m2 c2 ∧ OwnB W0.drew.heap.size w2 A2 m2 c2 (textB x.ky.data.toList) ∧ m2 ≤ 1000009 ∧ Below W0.drew.heap.size W0.drew w2) hn rfl (fun hk => call1_is en_r28_Text _ _ _ _ _ _ _ _ (.string x.ky) (lk_at hk (i := 5) rfl (fun _ => rfl) rfl) rfl) ((refPText_b x.ky W0.drew (by omega)).mono fun _ _ ⟨⟨A, m, c, he, hO, hm⟩, hb⟩ => ⟨_, he, A, m, c, rfl, hO, hm, hb⟩) ?_ rfl rfl rfl
    rintro v v1 ⟨A2, m2, c2, rfl, hO1, hm2, hb1⟩
    have hSb := hX0.keep (bel_un29 hb1)
    refine ⟨hSb, ?_⟩
    have hba := b0 v1 (.cells #[] 5)
    refine fh_valx 0 (d := 3) (w2 := v1.alloc (.cells #[] 5)) hn rfl (fun hk => x_bs28) (hSb.keep hba) ?_ rfl rfl (by kernel_rfl) rfl
    have hO2 := hO1.keep hba
    have hBb : Below b w v1 := hB.trans ((bel_un29 hb1).mono (show b ≤ W0.drew.heap.size by have := hB.size; show b ≤ W0.heap.size; omega))
    have hB2 := hBb.trans (hba.mono (by have := hBb.size; omega))
    have hg3 : ∃ g3, g3 = v1.heap.size := ⟨_, rfl⟩
    obtain ⟨g3, hg3⟩ := hg3
    rw [← hg3]
    generalize v1.alloc (.cells #[] 5) = v2 at hO2 hB2 hba ⊢
    have hSc := hSb.keep hba
    have hS1 : (fun W => Blk W b x.cells tCl) v2 := hSc
    obtain ⟨A4, c4, w4, hr4, hO4, hb4, _⟩ := run_apP (P := Try.prog) (ty := 58) (base := v2.heap.size) (n := 0) (c := 0) (l := []) (m := m2) (d := c2) v2 Try.underlying58 Try.underlying58 hi0 hz0 hz1 hz2 (.inr ⟨RdB.nil _ _ (some ⟨g3, 0, none⟩), rfl, rfl, by omega⟩) hO2.rd hO2.len (by have := text_pos x.ky.data.toList; have := hO2.len; omega) (by omega) (Nat.le_refl _)
    have hS4 : (fun W => Blk W b x.cells tCl) w4 := hS1.keep hb4
    refine fh_valx 4 (d := 7) hn rfl (fun hk => x_ap (lk_at hk (i := 3) rfl (fun _ => rfl) rfl) (lk_at hk (i := 6) rfl (fun _ => rfl) rfl) hr4) hS4 ?_ rfl rfl (by kernel_rfl) rfl
    refine h_c1 7 en_r28_Value hn (R := fun v w5 => ∃ A5 m5 c5, v = .slice A5 m5 c5 ∧ OwnB w4.heap.size w5 A5 m5 c5 (valB x.k x.x x.s.data.toList) ∧ m5 ≤ 1000018 ∧ Below w4.heap.size w4 w5) ((refPValue_b x.k x.x x.s w4 hg5.1 hf.2.2.1 hf.2.2.2 (by omega)).mono fun _ _ ⟨⟨A, m, c, he, hO, hm⟩, hb⟩ => ⟨_, he, A, m, c, rfl, hO, hm, hb⟩) ?_
    rintro v w5 ⟨A5, m5, c5, rfl, hO5, hm5, hb5⟩
    have hS5 : (fun W => Blk W b x.cells tCl) w5 := hS4.keep hb5
    refine ⟨hS5, ?_⟩
    have hO45 := hO4.keep hb5
    obtain ⟨A6, c6, w6, hr6, hO6, hb6, _⟩ := run_apP (P := Try.prog) (ty := 58) (base := v2.heap.size) (n := 0 + m2) (m := m5) (d := c5) w5 Try.underlying58 Try.underlying58 hi0 hz0 hz1 hz2 (.inl hO45) hO5.rd hO5.len (by have := val_pos hg0; have := hO5.len; omega) (by omega) (by have := hb4.size; have := hb5.size; omega)
    have hS6 : (fun W => Blk W b x.cells tCl) w6 := by
      have hz1' := hS1.lt
      exact (hS5.keep' hb6 hz1')
    refine fh_valx 8 (d := 11) hn rfl (fun hk => x_ap (lk_at hk (i := 7) rfl (fun _ => rfl) rfl) (lk_at hk (i := 10) rfl (fun _ => rfl) rfl) hr6) hS6 ?_ rfl rfl (by kernel_rfl) rfl
    refine h_c1 9 en_spinney_spinneyref28_Digest hn (R := fun v w7 => v = .int .u64 (shrC x : Nat) ∧ w7 = w6) ((refDig_any A6 (0 + m2 + m5) c6 _ w6 hO6.len hO6.rd (by omega)).mono fun _ _ ⟨he, hw⟩ => ⟨_, he, by rw [HV.out]; rfl, hw.symm⟩) ?_
    rintro v w7 ⟨rfl, hw7⟩
    rw [hw7]
    clear hw7
    refine ⟨hS6, ?_⟩
    refine h_as 10 hn hS6 ?_
    refine fh_end (by kernel_rfl) ?_
    clear hn
    subst ha
    dsimp only [fr, cnd, Act.put, cond_true]
    simp only [List.setIfInBounds_toArray, List.set_cons_zero, List.set_cons_succ]
    have g2 := hB2.trans (hb4.mono (by have := hB2.size; omega))
    have g3' := g2.trans (hb5.mono (by have := g2.size; omega))
    have g4 := g3'.trans (hb6.mono (by have := hB2.size; omega))
    go_wp2_with fail
    go_ret
    exact ⟨rfl, by first | exact g4 | (rw [hb]; exact g4)⟩
end Go.Proofs.Ytokkmofcijfmiab
