/-
  WHAT IS PROVED: a step, of a slate as a whole; Remove. Conditions: those typed in each theorem.
-/
import Derived.Test.YtfpfalgbkbmkeaaDoorSlForget
namespace Go.Proofs.YtfpfalgbkbmkeaaDoor
open Go.RowKit

def Sl.stepped (M : Sl) : Sl := { M with budget := stB M.armed M.budget, dead := stD M.armed M.budget M.dead }
theorem LaidE.stk {S : Addr} {B : Nat} {W W' : World} (h : LaidE S W) (hk : StK B W W') (hg : 0 < B) : LaidE S W' := by
  unfold LaidE World.cell? at *
  rw [hk.bel.block _ hg]
  exact h
theorem SlR.size {B s : Nat} {W : World} {M : Sl} (h : SlR B W s M) : B ≤ W.heap.size := by
  obtain ⟨_, _, _, _, _, _, _, _, _, _, _, _, _, _, _, _, h⟩ := h
  exact h
theorem SlR.lo {B s : Nat} {W : World} {M : Sl} (h : SlR B W s M) : B ≤ s := by
  obtain ⟨_, _, _, _, _, _, _, _, _, h, _⟩ := h
  exact h
/-- What a step leaves. -/
def StepR (S : Addr) (B s : Nat) (M : Sl) (w : World) (v : Value) (w' : World) : Prop := v = stV S M.armed M.budget ∧ SlR B w' s M.stepped ∧ StK B w w' ∧ LaidE S w'
theorem step_sl (S : Addr) (B s : Nat) (M : Sl) (w : World) (hR : SlR B w s M) (hE : LaidE S w) (hg : 0 < B) : Calls Tryd.prog 23 #[.pointer (some ⟨s, 0, none⟩)] w fun e w' => ∃ v, e = .returned v ∧ StepR S B s M w v w' := by
  obtain ⟨tg, d1, d2, f1, f2, A, n, c, hX, hsB, hD1, hD2, hO, hP, hb0, hb1, hBW⟩ := hR
  refine (step_any S s d1 d2 A n c M.armed M.budget M.dead w hX hE (Nat.lt_of_lt_of_le hg hsB) hb0 hb1).mono fun _ _ ⟨v, he, hv, ho, hX'⟩ => ?_
  have hbu : 0 ≤ stB M.armed M.budget ∧ stB M.armed M.budget ≤ 1099511627776 := by
    unfold stB
    split <;> omega
  obtain ⟨h1, h2⟩ := sl_head hsB hX hD1 hD2 hO hP hbu.1 hbu.2 hBW ho hX'
  exact ⟨v, he, hv, h1, h2, hE.stk h2 hg⟩
theorem SlR.drew {B s : Nat} {W : World} {M : Sl} (h : SlR B W s M) : SlR B W.drew s M := h.below ⟨rfl, rfl, rfl, Nat.le_refl _, fun _ _ => rfl⟩
theorem delD_at (D : Dk) (f : Int) : delD D f f = none := if_pos rfl
/-- A disk of which a file has gone. -/
theorem DkR.del {B : Nat} {tg : Nat → Nat × Int} {k : Nat} {W W' : World} {d : Nat} {D : Dk} {f : Int → Option Value} (h : DkR B tg k W d D f) (ho : Only1 d W W') {n : Int} (hm : MpI W' d (upd f n none)) : DkR B tg k W' d (delD D n) (upd f n none) := by
  refine ⟨hm, h.lo, h.tag, fun m hn => ?_, fun m v hv => ?_⟩
  · unfold delD
    by_cases e : m = n
    · rw [if_pos e]
    · rw [if_neg e]
      rw [upd_ne e] at hn
      exact h.no m hn
  · by_cases e : m = n
    · rw [e, upd_at] at hv
      cases hv
    · rw [upd_ne e] at hv
      obtain ⟨c, g, h1, h2, h3, h4, h5, h6⟩ := h.yes m v hv
      refine ⟨c, g, h1, h2, h3, ?_, h5.other ho ?_, h6⟩
      · unfold delD
        rw [if_neg e]
        exact h4
      · rintro rfl
        have := h2.symm.trans h.tag
        injection this with h7 _
        omega
/-- The other disk, when one's own map alone has turned. -/
theorem DkR.apart {B : Nat} {tg : Nat → Nat × Int} {k k2 : Nat} {W W' : World} {d d2 : Nat} {D D2 : Dk} {f f2 : Int → Option Value} (h : DkR B tg k W d D f) (h2 : DkR B tg k2 W d2 D2 f2) (ho : Only1 d2 W W') (hne : k ≠ k2) (hne2 : k + 2 ≠ k2) : DkR B tg k W' d D f :=
  h.keep (fun _ _ => rfl) fun x _ hx => ho.block x (by
    rintro rfl
    rw [h2.tag] at hx
    rcases hx with hx | hx <;> dsimp only at hx <;> omega)
theorem Blk.mp {W W' : World} {b d : Nat} {cs : Array Value} {t : TypeId} {f : Int → Option Value} (h : Blk W b cs t) (hm : MpI W d f) (ho : Only1 d W W') : Blk W' b cs t := (ho.block b (by
  rintro rfl
  obtain ⟨es, cl, hb, _⟩ := hm
  unfold Blk at h
  rw [h] at hb
  cases hb)).trans h
theorem stk_mp {B : Nat} {W W' : World} {d : Nat} {f : Int → Option Value} (hm : MpI W d f) (hB : B ≤ d) (ho : Only1 d W W') : StK B W W' := ⟨ho.below hB, fun x cs t fr hx _ _ => ho.block x (by
  rintro rfl
  obtain ⟨es, cl, hb, _⟩ := hm
  rw [hx] at hb
  cases hb)⟩
theorem OwnX.mp {t : TypeId} {z base : Nat} {W W' : World} {A : Option Addr} {n c : Nat} {l : List (Array Value)} {d : Nat} {f : Int → Option Value} (h : OwnX t z base W A n c l) (hm : MpI W d f) (ho : Only1 d W W') : OwnX t z base W' A n c l :=
  h.same fun x cs hx => ho.block x (by
    rintro rfl
    obtain ⟨es, cl, hb, _⟩ := hm
    unfold Blk at hx
    rw [hx] at hb
    cases hb)
def Sl.removes (M : Sl) (f : Int) : Sl := { M with kept := delD M.kept f, seen := delD M.seen f, pend := notP (isF f) M.pend }
def rmCode (M : Sl) (f : Int) : Int := bif fileB f then (bif M.spent then 7 else 0) else 1
def rmM (M : Sl) (f : Int) : Sl := bif fileB f then (bif M.spent then M.stepped else M.stepped.removes f) else M
theorem enters_Remove : ∀ args w, (callFunc 30 args).run Tryd.prog w = .ok (.enter 30 args) w := enters_of Tryd.func30 (by kernel_rfl) rfl

set_option maxRecDepth 100000 in
set_option maxHeartbeats 4000000 in
theorem remove_any (S : Addr) (B s : Nat) (M : Sl) (f : Int) (W : World) (hR : SlR B W s M) (hE : LaidE S W) (hg : 0 < B) :
    Calls Tryd.prog 30 #[.pointer (some ⟨s, 0, none⟩), .int .i64 f] W fun e W' => e = .returned (.int .i64 (rmCode M f)) ∧ SlR B W' s (rmM M f) ∧ StK B W W' := by
  have HR := Lib.hid hR
  have HE := Lib.hid hE
  clear hR hE
  go_enter Tryd.func30, Tryd.ntmps30
  go_upto_region 1 with fail
  refine wp_region_lit ?_
  refine fl_start ?_
  generalize ha : Act.mk _ _ = a0
  have hn : a0.tmps.size = 25 := by rw [← ha]; kernel_rfl
  have h0 : (fr a0 []).eval (.tmp 0) = .pointer (some ⟨s, 0, none⟩) := by rw [← ha]; kernel_rfl
  refine fl_know hn rfl h0 ?_
  clear h0
  have h1 : (fr a0 [(0, true, .pointer (some ⟨s, 0, none⟩))]).eval (.tmp 1) = .int .i64 f := by rw [← ha]; kernel_rfl
  refine fl_know hn rfl h1 ?_
  clear h1
  refine g_mv hn ?_
  refine g_c1x enters_isFile hn (R := fun v w2 => v = .bool (fileB f) ∧ w2 = W) ((isFile_any f W).mono fun _ _ ⟨he, hw⟩ => ⟨_, he, rfl, hw⟩) ?_
  rintro v w2 ⟨rfl, rfl⟩
  repeat first | refine g_mv hn ?_ | refine g_as hn ?_ | refine g_fd hn ?_ | refine g_ld hn ?_ | refine g_nc hn ?_ | refine g_nt hn ?_ | refine g_an hn ?_ | refine g_or hn ?_ | refine g_ln hn ?_ | refine g_ex hn ?_ | refine g_neq2 hn ?_ | refine g_neq hn ?_ | refine g_eql2 hn ?_ | refine g_eql hn ?_ | refine g_leq2 hn ?_ | refine g_leq hn ?_ | refine g_lss2 hn ?_ | refine g_lss hn ?_ | refine g_gtr2 hn ?_ | refine g_gtr hn ?_ | refine g_geq2 hn ?_ | refine g_geq hn ?_ | refine g_b0 hn ?_ | refine g_bn hn ?_ | refine g_bc hn ?_ | refine g_cv hn ?_ | refine g_ac hn ?_ | refine g_mc hn ?_
  refine fl_end ?_
  clear hn
  subst ha
  dsimp only [fr, cnd, Act.put, cond_true]
  simp only [List.setIfInBounds_toArray, List.set_cons_zero, List.set_cons_succ]
  cases hok : fileB f with
  | false =>
    have R : Hid (Ending.returned (.int .i64 1) = Ending.returned (.int .i64 (rmCode M f)) ∧ SlR B w2 s (rmM M f) ∧ StK B w2 w2) := by
      show _ ∧ _ ∧ _
      unfold rmCode rmM
      rw [hok]
      exact ⟨rfl, HR.out, StK.refl _ _⟩
    clear hok
    go_wp2_with fail
    go_ret
    exact R.out
  | true =>
  have HOK := Lib.hid hok
  clear hok
  go_upto_region 3 with fail
  refine fh_start (S := (fun W => LaidE S W)) (by kernel_rfl) (HE.out) (fun hS => ?_)
  generalize ha : Act.mk _ _ = a0
  have hn : a0.tmps.size = 25 := by rw [← ha]; kernel_rfl
  have h0 : (fr a0 []).eval (.tmp 0) = .pointer (some ⟨s, 0, none⟩) := by rw [← ha]; kernel_rfl
  refine fh_know hn rfl h0 ?_
  clear h0
  refine h_mv 0 hn hS ?_
  have cg : ∀ W, LaidE S W → (Instr.loadAt 61 (.pointer (some ⟨0, 0, none⟩))).run Tryd.prog W = .ok (.iface 102 (.pointer (some S))) W := fun W h => ld_err h
  refine h_lg 2 hn hS ?_ (u := .pointer (some ⟨0, 0, none⟩))
  refine h_c1 1 enters_step hn (step_sl S B s M (World.drew w2) HR.out.drew hS hg) ?_
  rintro v w3 ⟨rfl, hR3, hK3, hE3⟩
  replace hS := hE3
  refine ⟨hS, ?_⟩
  refine h_c2 3 enters_Is hn (isErr_any S M.armed M.budget w3) ?_
  rintro v w4 ⟨rfl, rfl⟩
  refine ⟨hS, ?_⟩
  refine fh_end (by kernel_rfl) ?_
  clear hn cg
  subst ha
  dsimp only [fr, cnd, Act.put, cond_true]
  simp only [List.setIfInBounds_toArray, List.set_cons_zero, List.set_cons_succ]
  have hK0 : StK B w2 w4 := ⟨⟨hK3.bel.os, hK3.bel.tape, hK3.bel.output, hK3.bel.size, hK3.bel.block⟩, hK3.cel⟩
  clear hK3 hS hE3
  cases hsp : spentB M.armed M.budget with
  | true =>
    have R : Hid (Ending.returned (.int .i64 7) = Ending.returned (.int .i64 (rmCode M f)) ∧ SlR B w4 s (rmM M f) ∧ StK B w2 w4) := by
      show _ ∧ _ ∧ _
      unfold rmCode rmM Sl.spent
      rw [HOK.out, hsp]
      exact ⟨rfl, hR3, hK0⟩
    clear hsp hR3 hK0
    go_wp2_with fail
    go_ret
    exact R.out
  | false =>
  have HSP := Lib.hid hsp
  clear hsp
  go_upto_region 5 with fail
  refine wp_region_lit ?_
  refine fl_start ?_
  generalize ha : Act.mk _ _ = a0
  have hn : a0.tmps.size = 25 := by rw [← ha]; kernel_rfl
  have h0 : (fr a0 []).eval (.tmp 0) = .pointer (some ⟨s, 0, none⟩) := by rw [← ha]; kernel_rfl
  refine fl_know hn rfl h0 ?_
  clear h0
  have h1 : (fr a0 [(0, true, .pointer (some ⟨s, 0, none⟩))]).eval (.tmp 1) = .int .i64 f := by rw [← ha]; kernel_rfl
  refine fl_know hn rfl h1 ?_
  clear h1
  repeat first | refine g_mv hn ?_ | refine g_as hn ?_ | refine g_fd hn ?_ | refine g_ld hn ?_ | refine g_nc hn ?_ | refine g_nt hn ?_ | refine g_an hn ?_ | refine g_or hn ?_ | refine g_ln hn ?_ | refine g_ex hn ?_ | refine g_neq2 hn ?_ | refine g_neq hn ?_ | refine g_eql2 hn ?_ | refine g_eql hn ?_ | refine g_leq2 hn ?_ | refine g_leq hn ?_ | refine g_lss2 hn ?_ | refine g_lss hn ?_ | refine g_gtr2 hn ?_ | refine g_gtr hn ?_ | refine g_geq2 hn ?_ | refine g_geq hn ?_ | refine g_b0 hn ?_ | refine g_bn hn ?_ | refine g_bc hn ?_ | refine g_cv hn ?_ | refine g_ac hn ?_ | refine g_mc hn ?_
  refine g_c2x enters_forget hn (R := fun _ w5 => SlR B w5 s (M.stepped.forgets f) ∧ StK B w4 w5) ((forget_any B s M.stepped f w4 hR3).mono fun _ _ ⟨he, h1, h2⟩ => ⟨_, he, h1, h2⟩) ?_
  rintro _ w5 ⟨hR5, hK5⟩
  refine fl_end ?_
  clear hn
  subst ha
  dsimp only [fr, cnd, Act.put, cond_true]
  simp only [List.setIfInBounds_toArray, List.set_cons_zero, List.set_cons_succ]
  have hK6 := hK0.trans hK5
  clear hR3 hK0 hK5
  obtain ⟨tg, d1, d2, f1, f2, A, n, c, hX, hsB, hD1, hD2, hO, hP, hb0, hb1, hBW⟩ := hR5
  have a0 := sl_a0 w5 s
  have l0 := sl_l0 hX
  obtain ⟨w6, hr6, ho6, hm6⟩ := run_delI (P := Tryd.prog) (ts := #[55, 3]) (t := 55) rfl mUnd iUnd hD1.mp f
  go_upto_region 6 with fail
  refine wp_region_lit ?_
  refine fl_start ?_
  generalize ha : Act.mk _ _ = a0
  have hn : a0.tmps.size = 25 := by rw [← ha]; kernel_rfl
  have h0 : (fr a0 []).eval (.tmp 0) = .pointer (some ⟨s, 0, none⟩) := by rw [← ha]; kernel_rfl
  refine fl_know hn rfl h0 ?_
  clear h0
  have h1 : (fr a0 [(0, true, .pointer (some ⟨s, 0, none⟩))]).eval (.tmp 1) = .int .i64 f := by rw [← ha]; kernel_rfl
  refine fl_know hn rfl h1 ?_
  clear h1
  repeat first | refine g_mv hn ?_ | refine g_as hn ?_ | refine g_fd hn ?_ | refine g_ld hn ?_ | refine g_nc hn ?_ | refine g_nt hn ?_ | refine g_an hn ?_ | refine g_or hn ?_ | refine g_ln hn ?_ | refine g_ex hn ?_ | refine g_neq2 hn ?_ | refine g_neq hn ?_ | refine g_eql2 hn ?_ | refine g_eql hn ?_ | refine g_leq2 hn ?_ | refine g_leq hn ?_ | refine g_lss2 hn ?_ | refine g_lss hn ?_ | refine g_gtr2 hn ?_ | refine g_gtr hn ?_ | refine g_geq2 hn ?_ | refine g_geq hn ?_ | refine g_b0 hn ?_ | refine g_bn hn ?_ | refine g_bc hn ?_ | refine g_cv hn ?_ | refine g_ac hn ?_ | refine g_mc hn ?_
  refine g_del hr6 ?_
  refine fl_end ?_
  clear hn
  subst ha
  dsimp only [fr, cnd, Act.put, cond_true]
  simp only [List.setIfInBounds_toArray, List.set_cons_zero, List.set_cons_succ]
  have hX6 := hX.mp hD1.mp ho6
  have hD26 := hD2.apart hD1 ho6 (by decide) (by decide)
  have hO6 := hO.mp hD1.mp ho6
  have hK7 := hK6.trans (stk_mp hD1.mp hD1.lo ho6)
  have hD16 := hD1.del ho6 hm6
  have hBW6 : B ≤ w6.heap.size := by rw [ho6.size]; exact hBW
  clear hX hD1 hD2 hO hK6 a0 l0 hr6 hm6 hBW
  have a1 := sl_a1 w6 s
  have l1 := sl_l1 hX6
  obtain ⟨w7, hr7, ho7, hm7⟩ := run_delI (P := Tryd.prog) (ts := #[55, 3]) (t := 55) rfl mUnd iUnd hD26.mp f
  go_upto_region 7 with fail
  refine wp_region_lit ?_
  refine fl_start ?_
  generalize ha : Act.mk _ _ = a0
  have hn : a0.tmps.size = 25 := by rw [← ha]; kernel_rfl
  have h0 : (fr a0 []).eval (.tmp 0) = .pointer (some ⟨s, 0, none⟩) := by rw [← ha]; kernel_rfl
  refine fl_know hn rfl h0 ?_
  clear h0
  have h1 : (fr a0 [(0, true, .pointer (some ⟨s, 0, none⟩))]).eval (.tmp 1) = .int .i64 f := by rw [← ha]; kernel_rfl
  refine fl_know hn rfl h1 ?_
  clear h1
  repeat first | refine g_mv hn ?_ | refine g_as hn ?_ | refine g_fd hn ?_ | refine g_ld hn ?_ | refine g_nc hn ?_ | refine g_nt hn ?_ | refine g_an hn ?_ | refine g_or hn ?_ | refine g_ln hn ?_ | refine g_ex hn ?_ | refine g_neq2 hn ?_ | refine g_neq hn ?_ | refine g_eql2 hn ?_ | refine g_eql hn ?_ | refine g_leq2 hn ?_ | refine g_leq hn ?_ | refine g_lss2 hn ?_ | refine g_lss hn ?_ | refine g_gtr2 hn ?_ | refine g_gtr hn ?_ | refine g_geq2 hn ?_ | refine g_geq hn ?_ | refine g_b0 hn ?_ | refine g_bn hn ?_ | refine g_bc hn ?_ | refine g_cv hn ?_ | refine g_ac hn ?_ | refine g_mc hn ?_
  refine g_del hr7 ?_
  refine fl_end ?_
  clear hn
  subst ha
  dsimp only [fr, cnd, Act.put, cond_true]
  simp only [List.setIfInBounds_toArray, List.set_cons_zero, List.set_cons_succ]
  have R : Hid (Ending.returned (.int .i64 0) = Ending.returned (.int .i64 (rmCode M f)) ∧ SlR B w7 s (rmM M f) ∧ StK B w2 w7) := by
    show _ ∧ _ ∧ _
    unfold rmCode rmM Sl.spent
    rw [HOK.out, HSP.out]
    exact ⟨rfl, ⟨tg, d1, d2, _, _, A, n, c, hX6.mp hD26.mp ho7, hsB, hD16.apart hD26 ho7 (by decide) (by decide), hD26.del ho7 hm7, hO6.mp hD26.mp ho7, hP, hb0, hb1, by rw [ho7.size]; exact hBW6⟩, hK7.trans (stk_mp hD26.mp hD26.lo ho7)⟩
  clear hX6 hD16 hD26 hO6 hK7 a1 l1 hr7 hm7
  go_wp2_with fail
  go_ret
  exact R.out
end Go.Proofs.YtfpfalgbkbmkeaaDoor
