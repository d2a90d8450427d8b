/-
  WHAT IS PROVED: slate's Flush. Conditions: those typed in each theorem.
-/
import Derived.Test.YtgbopikhdpmmcaaDoorSlRemove
namespace Go.Proofs.YtgbopikhdpmmcaaDoor
open Go.RowKit

/-- A slate in memory, with its maps and its row by name. -/
def SlX (B : Nat) (W : World) (s : Nat) (M : Sl) (d1 d2 : Nat) (A : Option Addr) (n c : Nat) : Prop :=
  ∃ (tg : Nat → Nat × Int) (f1 f2 : Int → Option Value), Blk W s (slI d1 d2 A n c M.armed M.budget M.dead) 81 ∧ B ≤ s ∧ DkR B tg 0 W d1 M.kept f1 ∧ DkR B tg 1 W d2 M.seen f2 ∧ OwnX 87 66 B W A n c (M.pend.map Pw.cells) ∧
    (∀ x, x ∈ M.pend → x.l.length = 64) ∧ 0 ≤ M.budget ∧ M.budget ≤ 1099511627776 ∧ B ≤ W.heap.size
theorem SlX.slr {B : Nat} {W : World} {s : Nat} {M : Sl} {d1 d2 : Nat} {A : Option Addr} {n c : Nat} (h : SlX B W s M d1 d2 A n c) : SlR B W s M := by
  obtain ⟨tg, f1, f2, h⟩ := h
  exact ⟨tg, d1, d2, f1, f2, A, n, c, h⟩
theorem SlR.slx {B : Nat} {W : World} {s : Nat} {M : Sl} (h : SlR B W s M) : ∃ d1 d2 A n c, SlX B W s M d1 d2 A n c := by
  obtain ⟨tg, d1, d2, f1, f2, A, n, c, h⟩ := h
  exact ⟨d1, d2, A, n, c, tg, f1, f2, h⟩
section
variable {B : Nat} {W W' : World} {s : Nat} {M : Sl} {d1 d2 : Nat} {A : Option Addr} {n c : Nat}
theorem SlX.blk (h : SlX B W s M d1 d2 A n c) : Blk W s (slI d1 d2 A n c M.armed M.budget M.dead) 81 := by
  obtain ⟨_, _, _, h, _⟩ := h
  exact h
theorem SlX.own (h : SlX B W s M d1 d2 A n c) : OwnX 87 66 B W A n c (M.pend.map Pw.cells) := by
  obtain ⟨_, _, _, _, _, _, _, h, _⟩ := h
  exact h
theorem SlX.p6 (h : SlX B W s M d1 d2 A n c) : ∀ x, x ∈ M.pend → x.l.length = 64 := by
  obtain ⟨_, _, _, _, _, _, _, _, h, _⟩ := h
  exact h
theorem SlX.size (h : SlX B W s M d1 d2 A n c) : B ≤ W.heap.size := h.slr.size
theorem SlX.len (h : SlX B W s M d1 d2 A n c) : M.pend.length = n := by have := h.own.len; rwa [List.length_map] at this
theorem SlX.below (h : SlX B W s M d1 d2 A n c) (hb : Below W.heap.size W W') : SlX B W' s M d1 d2 A n c := by
  obtain ⟨tg, f1, f2, h1, h2, h3, h4, h5, h6, h7, h8, h9⟩ := h
  exact ⟨tg, f1, f2, h1.keep hb, h2, h3.below hb, h4.below hb, h5.keep hb, h6, h7, h8, Nat.le_trans h9 hb.size⟩
theorem SlX.drew (h : SlX B W s M d1 d2 A n c) : SlX B W.drew s M d1 d2 A n c := h.below ⟨rfl, rfl, rfl, Nat.le_refl _, fun _ _ => rfl⟩
theorem SlX.stk (h : SlX B W s M d1 d2 A n c) (hb : Below W.heap.size W W') : StK B W W' := StK.of_below hb h.size
end
theorem StK.drew {B : Nat} {W W' : World} (h : StK B W W') : StK B W W'.drew := ⟨⟨h.bel.os, h.bel.tape, h.bel.output, h.bel.size, h.bel.block⟩, h.cel⟩
theorem StK.undrew {B : Nat} {W W' : World} (h : StK B W.drew W') : StK B W W' := ⟨⟨h.bel.os, h.bel.tape, h.bel.output, h.bel.size, h.bel.block⟩, h.cel⟩
theorem DoK.stk {B : Nat} {tg : Nat → Nat × Int} {k : Nat} {W W' : World} (h : DoK B tg k W W') : StK B W W' := ⟨h.bel, fun x cs t fr hx _ _ => h.cel x cs t fr hx⟩
def Sl.doK (M : Sl) (x : Pw) : Sl := { M with kept := putD M.kept x }
def Sl.doS (M : Sl) (x : Pw) : Sl := { M with seen := putD M.seen x }
/-- What a write upon one of a slate's disks leaves. -/
def DoX (B s : Nat) (M : Sl) (d1 d2 : Nat) (A : Option Addr) (n c : Nat) (W : World) (v : Value) (W' : World) : Prop := v = .tuple #[] ∧ SlX B W' s M d1 d2 A n c ∧ StK B W W' ∧ ∀ b cs t, Blk W b cs t → Blk W' b cs t
theorem doK_any (B s : Nat) (M : Sl) (d1 d2 : Nat) (A : Option Addr) (n c : Nat) (x : Pw) (W : World) (hX : SlX B W s M d1 d2 A n c) (hx : x.l.length = 64) : Calls Tryd.prog 36 #[.map (some d1), .agg x.cells] W fun e W' => ∃ v, e = .returned v ∧ DoX B s (M.doK x) d1 d2 A n c W v W' := by
  obtain ⟨tg, f1, f2, h1, h2, h3, h4, h5, h6, h7, h8, h9⟩ := hX
  refine (do_any B tg 0 d1 M.kept f1 x W h3 hx h9).mono fun _ w' ⟨he, tg', f', ht, hD, hK⟩ => ⟨_, he, rfl, ⟨tg', f', f2, hK.blk h1, h2, hD, h4.keep ht fun y hy hq => hK.oth y hy (by rcases hq with h | h <;> omega) (by rcases hq with h | h <;> omega), h5.same fun y cs hy => hK.cel y cs _ _ hy, h6, h7, h8, Nat.le_trans h9 hK.bel.size⟩, hK.stk, fun b cs t hb => hK.blk hb⟩
theorem doS_any (B s : Nat) (M : Sl) (d1 d2 : Nat) (A : Option Addr) (n c : Nat) (x : Pw) (W : World) (hX : SlX B W s M d1 d2 A n c) (hx : x.l.length = 64) : Calls Tryd.prog 36 #[.map (some d2), .agg x.cells] W fun e W' => ∃ v, e = .returned v ∧ DoX B s (M.doS x) d1 d2 A n c W v W' := by
  obtain ⟨tg, f1, f2, h1, h2, h3, h4, h5, h6, h7, h8, h9⟩ := hX
  refine (do_any B tg 1 d2 M.seen f2 x W h4 hx h9).mono fun _ w' ⟨he, tg', f', ht, hD, hK⟩ => ⟨_, he, rfl, ⟨tg', f1, f', hK.blk h1, h2, h3.keep ht fun y hy hq => hK.oth y hy (by rcases hq with h | h <;> omega) (by rcases hq with h | h <;> omega), hD, h5.same fun y cs hy => hK.cel y cs _ _ hy, h6, h7, h8, Nat.le_trans h9 hK.bel.size⟩, hK.stk, fun b cs t hb => hK.blk hb⟩
/-- The writes of a file, done upon a disk. -/
def keptF (D : Dk) (f : Int) (l : List Pw) : Dk := l.foldl (fun D x => if x.f == f then putD D x else D) D
theorem keptF_add (D : Dk) (f : Int) {l : List Pw} {k : Nat} {x : Pw} (hx : l[k]? = some x) : keptF D f (l.take (k + 1)) = if x.f == f then putD (keptF D f (l.take k)) x else keptF D f (l.take k) := by
  unfold keptF
  rw [List.take_add_one, hx, Option.toList_some, List.foldl_append]
  rfl
def Sl.keeps (M : Sl) (f : Int) (l : List Pw) : Sl := { M with kept := keptF M.kept f l }
def Sl.flushes (M : Sl) (f : Int) : Sl := (M.keeps f M.pend).forgets f
def flM (M : Sl) (f : Int) : Sl := bif fileB f then (bif M.spent then M.stepped else M.stepped.flushes f) else M
theorem enters_Flush : ∀ args w, (callFunc 24 args).run Tryd.prog w = .ok (.enter 24 args) w := enters_of Tryd.func24 (by kernel_rfl) rfl

set_option maxRecDepth 100000 in
set_option maxHeartbeats 4000000 in
theorem flush_any (S : Addr) (B s : Nat) (M : Sl) (f : Int) (W : World) (hR : SlR B W s M) (hE : LaidE S W) (hg : 1 < B) :
    Calls Tryd.prog 24 #[.pointer (some ⟨s, 0, none⟩), .int .i64 f] W fun e W' => e = .returned (.int .i64 (rmCode M f)) ∧ SlR B W' s (flM M f) ∧ StK B W W' := by
  have HR := Lib.hid hR
  have HE := Lib.hid hE
  clear hR hE
  go_enter Tryd.func24, Tryd.ntmps24
  go_upto_region 1 with fail
  refine wp_region_lit ?_
  refine fl_start ?_
  generalize ha : Act.mk _ _ = a0
  have hn : a0.tmps.size = 37 := by rw [← ha]; kernel_rfl
  have h0 : (fr a0 []).eval (.tmp 0) = .pointer (some ⟨s, 0, none⟩) := by rw [← ha]; kernel_rfl
  refine fl_know hn rfl h0 ?_
  clear h0
  have h1 : (fr a0 [(0, true, .pointer (some ⟨s, 0, none⟩))]).eval (.tmp 1) = .int .i64 f := by rw [← ha]; kernel_rfl
  refine fl_know hn rfl h1 ?_
  clear h1
  refine g_mv hn ?_
  refine g_c1x enters_isFile hn (R := fun v w2 => v = .bool (fileB f) ∧ w2 = W) ((isFile_any f W).mono fun _ _ ⟨he, hw⟩ => ⟨_, he, rfl, hw⟩) ?_
  rintro v w2 ⟨rfl, rfl⟩
  repeat first | refine g_mv hn ?_ | refine g_as hn ?_ | refine g_fd hn ?_ | refine g_ld hn ?_ | refine g_nc hn ?_ | refine g_nt hn ?_ | refine g_an hn ?_ | refine g_or hn ?_ | refine g_ln hn ?_ | refine g_ex hn ?_ | refine g_neq2 hn ?_ | refine g_neq hn ?_ | refine g_eql2 hn ?_ | refine g_eql hn ?_ | refine g_leq2 hn ?_ | refine g_leq hn ?_ | refine g_lss2 hn ?_ | refine g_lss hn ?_ | refine g_gtr2 hn ?_ | refine g_gtr hn ?_ | refine g_geq2 hn ?_ | refine g_geq hn ?_ | refine g_b0 hn ?_ | refine g_bn hn ?_ | refine g_bc hn ?_ | refine g_cv hn ?_ | refine g_ac hn ?_ | refine g_mc hn ?_
  refine fl_end ?_
  clear hn
  subst ha
  dsimp only [fr, cnd, Act.put, cond_true]
  simp only [List.setIfInBounds_toArray, List.set_cons_zero, List.set_cons_succ]
  cases hok : fileB f with
  | false =>
    have R : Hid (Ending.returned (.int .i64 1) = Ending.returned (.int .i64 (rmCode M f)) ∧ SlR B w2 s (flM M f) ∧ StK B w2 w2) := by
      show _ ∧ _ ∧ _
      unfold rmCode flM
      rw [hok]
      exact ⟨rfl, HR.out, StK.refl _ _⟩
    clear hok
    go_wp2_with fail
    go_ret
    exact R.out
  | true =>
  have HOK := Lib.hid hok
  clear hok
  go_upto_region 3 with fail
  refine fh_start (S := (fun W => LaidE S W)) (by kernel_rfl) (HE.out) (fun hS => ?_)
  generalize ha : Act.mk _ _ = a0
  have hn : a0.tmps.size = 37 := by rw [← ha]; kernel_rfl
  have h0 : (fr a0 []).eval (.tmp 0) = .pointer (some ⟨s, 0, none⟩) := by rw [← ha]; kernel_rfl
  refine fh_know hn rfl h0 ?_
  clear h0
  refine h_mv 0 hn hS ?_
  have cg : ∀ W, LaidE S W → (Instr.loadAt 72 (.pointer (some ⟨1, 0, none⟩))).run Tryd.prog W = .ok (.iface 133 (.pointer (some S))) W := fun W h => ld_err h
  refine h_lg 2 hn hS ?_ (u := .pointer (some ⟨1, 0, none⟩))
  refine h_c1 1 enters_step hn (step_sl S B s M (World.drew w2) HR.out.drew hS hg) ?_
  rintro v w3 ⟨rfl, hR3, hK3, hE3⟩
  replace hS := hE3
  refine ⟨hS, ?_⟩
  refine h_c2 3 enters_Is hn (isErr_any S M.armed M.budget w3) ?_
  rintro v w4 ⟨rfl, rfl⟩
  refine ⟨hS, ?_⟩
  refine fh_end (by kernel_rfl) ?_
  clear hn cg
  subst ha
  dsimp only [fr, cnd, Act.put, cond_true]
  simp only [List.setIfInBounds_toArray, List.set_cons_zero, List.set_cons_succ]
  have hK0 : StK B w2 w4 := ⟨⟨hK3.bel.os, hK3.bel.tape, hK3.bel.output, hK3.bel.size, hK3.bel.block⟩, hK3.cel⟩
  clear hK3 hS hE3
  cases hsp : spentB M.armed M.budget with
  | true =>
    have R : Hid (Ending.returned (.int .i64 7) = Ending.returned (.int .i64 (rmCode M f)) ∧ SlR B w4 s (flM M f) ∧ StK B w2 w4) := by
      show _ ∧ _ ∧ _
      unfold rmCode flM Sl.spent
      rw [HOK.out, hsp]
      exact ⟨rfl, hR3, hK0⟩
    clear hsp hR3 hK0
    go_wp2_with fail
    go_ret
    exact R.out
  | false =>
  have HSP := Lib.hid hsp
  clear hsp
  have hFin : Hid (∀ w9, SlR B w9 s (M.stepped.flushes f) ∧ StK B w4 w9 → Ending.returned (.int .i64 0) = Ending.returned (.int .i64 (rmCode M f)) ∧ SlR B w9 s (flM M f) ∧ StK B w2 w9) := by
    intro w9 h
    unfold rmCode flM Sl.spent
    rw [HOK.out, HSP.out]
    exact ⟨rfl, h.1, hK0.trans h.2⟩
  clear HSP HOK hK0
  generalize M.stepped = N at hR3 hFin
  obtain ⟨d1, d2, A, n, c, hX⟩ := hR3.slx
  clear hR3
  have hlen := hX.len
  have hcap := hX.own.cap
  unfold maxLen at hcap
  have a2 := sl_a2 w4 s
  have l2 := sl_l2 hX.blk
  go_upto_region 5 with fail
  refine wp_region_lit ?_
  refine fl_start ?_
  generalize ha : Act.mk _ _ = a0
  have hn : a0.tmps.size = 37 := by rw [← ha]; kernel_rfl
  have h0 : (fr a0 []).eval (.tmp 0) = .pointer (some ⟨s, 0, none⟩) := by rw [← ha]; kernel_rfl
  refine fl_know hn rfl h0 ?_
  clear h0
  repeat first | refine g_mv hn ?_ | refine g_as hn ?_ | refine g_fd hn ?_ | refine g_ld hn ?_ | refine g_nc hn ?_ | refine g_nt hn ?_ | refine g_an hn ?_ | refine g_or hn ?_ | refine g_ln hn ?_ | refine g_ex hn ?_ | refine g_neq2 hn ?_ | refine g_neq hn ?_ | refine g_eql2 hn ?_ | refine g_eql hn ?_ | refine g_leq2 hn ?_ | refine g_leq hn ?_ | refine g_lss2 hn ?_ | refine g_lss hn ?_ | refine g_gtr2 hn ?_ | refine g_gtr hn ?_ | refine g_geq2 hn ?_ | refine g_geq hn ?_ | refine g_b0 hn ?_ | refine g_bn hn ?_ | refine g_bc hn ?_ | refine g_cv hn ?_ | refine g_ac hn ?_ | refine g_mc hn ?_
  refine fl_end ?_
  clear hn
  subst ha
  dsimp only [fr, cnd, Act.put, cond_true]
  simp only [List.setIfInBounds_toArray, List.set_cons_zero, List.set_cons_succ]
  clear a2 l2
  have HX0 : Hid (SlX B w4 s (N.keeps f (N.pend.take 0)) d1 d2 A n c) := hX
  have HL := Lib.hid hlen
  have H6 := Lib.hid hX.p6
  have HK : Hid (StK B w4 w4) := StK.refl _ _
  clear hX
  go_wp2_with fail
  go_loopw [6, 19] (fun _ i wr => ∃ k : Nat, k ≤ n ∧ i = .int .i64 k ∧ Hid (SlX B wr s (N.keeps f (N.pend.take k)) d1 d2 A n c) ∧ Hid (StK B w4 wr)) (fun _ i _ => n - (intOf i).toNat)
  case atStart => exact ⟨0, Nat.zero_le _, rfl, HX0, HK⟩
  case round =>
    clear HX0 HK
    obtain ⟨k, hk, rfl, hA, hK⟩ := hrel
    by_cases hlt : k < n
    · obtain ⟨x, hx⟩ : ∃ x, N.pend[k]? = some x := ⟨_, List.getElem?_eq_getElem (show k < N.pend.length by have := HL.out; omega)⟩
      have hx6 := H6.out x (List.mem_of_getElem? hx)
      obtain ⟨b, rfl, hbl, hc⟩ := hA.out.own.rdp k x hx
      have i1 : (0 : Int) ≤ (k : Int) := by omega
      have i2 : (k : Int) < (n : Int) := by omega
      have k1 := ix_p wr b n c k hlt
      have k2 := ld_p (k := k) hx6 hc
      clear hc
      go_upto_region 7 with fail
      refine wp_region_lit ?_
      refine fl_start ?_
      generalize ha : Act.mk _ _ = a0
      have hn : a0.tmps.size = 37 := by rw [← ha]; kernel_rfl
      have h17 : (fr a0 []).eval (.tmp 17) = .slice (some ⟨b, 0, none⟩) n c := by rw [← ha]; kernel_rfl
      refine fl_know hn rfl h17 ?_
      clear h17
      have h19 : (fr a0 [(17, true, .slice (some ⟨b, 0, none⟩) n c)]).eval (.tmp 19) = .int .i64 k := by rw [← ha]; kernel_rfl
      refine fl_know hn rfl h19 ?_
      clear h19
      repeat first | refine g_mv hn ?_ | refine g_as hn ?_ | refine g_ix hn ?_ | refine g_fd hn ?_ | refine g_ld hn ?_ | refine g_nc hn ?_ | refine g_nt hn ?_ | refine g_an hn ?_ | refine g_or hn ?_ | refine g_ln hn ?_ | refine g_ex hn ?_ | refine g_neq2 hn ?_ | refine g_neq hn ?_ | refine g_eql2 hn ?_ | refine g_eql hn ?_ | refine g_leq2 hn ?_ | refine g_leq hn ?_ | refine g_lss2 hn ?_ | refine g_lss hn ?_ | refine g_gtr2 hn ?_ | refine g_gtr hn ?_ | refine g_geq2 hn ?_ | refine g_geq hn ?_ | refine g_b0 hn ?_ | refine g_bn hn ?_ | refine g_bc hn ?_ | refine g_cv hn ?_ | refine g_ac hn ?_ | refine g_mc hn ?_
      refine g_w hn (w2 := wr.alloc (.cells (⟨0, 0, z64⟩ : Pw).cells 87)) (v := .pointer (some ⟨wr.heap.size, 0, none⟩)) (fun _ => by unfold execOp; dsimp only; rw [Sem.run_bind, run_alW]; rfl) ?_
      have hY := blk_new wr (⟨0, 0, z64⟩ : Pw).cells 87
      have hB := b0 wr (.cells (⟨0, 0, z64⟩ : Pw).cells 87)
      generalize wr.alloc (.cells (⟨0, 0, z64⟩ : Pw).cells 87) = w5 at hY hB ⊢
      generalize hb7 : wr.heap.size = b7 at hY hB ⊢
      refine g_str hY ?_ (hs := by rw [pw_size hx6]; exact pw_size rfl) (hi := by rw [pw_size hx6]; kernel_rfl) (h1 := pw_one _)
      intro w6 ho6 hY6
      refine fl_end ?_
      clear hn
      subst ha
      dsimp only [fr, cnd, Act.put, cond_true]
      simp only [List.setIfInBounds_toArray, List.set_cons_zero, List.set_cons_succ]
      replace hB : Below wr.heap.size wr w6 := by
        rw [hb7]
        exact hB.trans (ho6.below (Nat.le_refl _))
      clear k1 k2 hY ho6
      have hA6 := Lib.hid (hA.out.below hB)
      have hK6 := Lib.hid (hK.out.trans (hA.out.stk hB))
      have f0 := pw_f0 w6 b7
      have l0 := pw_l0 hY6
      clear hA hK
      go_upto_region 8 with fail
      refine wp_region_lit ?_
      refine fl_start ?_
      generalize ha : Act.mk _ _ = a0
      have hn : a0.tmps.size = 37 := by rw [← ha]; kernel_rfl
      have h1 : (fr a0 []).eval (.tmp 1) = .int .i64 f := by rw [← ha]; kernel_rfl
      refine fl_know hn rfl h1 ?_
      clear h1
      have h6 : (fr a0 [(1, true, .int .i64 f)]).eval (.tmp 6) = .pointer (some ⟨b7, 0, none⟩) := by rw [← ha]; kernel_rfl
      refine fl_know hn rfl h6 ?_
      clear h6
      repeat first | refine g_mv hn ?_ | refine g_as hn ?_ | refine g_fd hn ?_ | refine g_ld hn ?_ | refine g_nc hn ?_ | refine g_nt hn ?_ | refine g_an hn ?_ | refine g_or hn ?_ | refine g_ln hn ?_ | refine g_ex hn ?_ | refine g_neq2 hn ?_ | refine g_neq hn ?_ | refine g_eql2 hn ?_ | refine g_eql hn ?_ | refine g_leq2 hn ?_ | refine g_leq hn ?_ | refine g_lss2 hn ?_ | refine g_lss hn ?_ | refine g_gtr2 hn ?_ | refine g_gtr hn ?_ | refine g_geq2 hn ?_ | refine g_geq hn ?_ | refine g_b0 hn ?_ | refine g_bn hn ?_ | refine g_bc hn ?_ | refine g_cv hn ?_ | refine g_ac hn ?_ | refine g_mc hn ?_
      refine fl_end ?_
      clear hn
      subst ha
      dsimp only [fr, cnd, Act.put, cond_true]
      simp only [List.setIfInBounds_toArray, List.set_cons_zero, List.set_cons_succ]
      clear f0 l0
      cases hpx : (x.f == f) with
      | false =>
        have e : N.keeps f (N.pend.take k) = N.keeps f (N.pend.take (k + 1)) := by
          unfold Sl.keeps
          rw [keptF_add _ _ hx, hpx]
          rfl
        rw [e] at hA6
        clear hpx hY6 e
        go_wp2_with fail
        go_roundw
        case rel => exact ⟨k + 1, by omega, by go_num, hA6, hK6⟩
        case measure => simp [intOf]; omega
      | true =>
        have e : (N.keeps f (N.pend.take k)).doK x = N.keeps f (N.pend.take (k + 1)) := by
          unfold Sl.keeps Sl.doK
          rw [keptF_add _ _ hx, hpx]
          rfl
        clear hpx
        have c1 : ∀ W, (Blk W s (slI d1 d2 (some ⟨b, 0, none⟩) n c N.armed N.budget N.dead) 81 ∧ Blk W b7 x.cells 87) → (Instr.fieldAt 81 (.pointer (some ⟨s, 0, none⟩)) 0).run Tryd.prog W = .ok (.pointer (some ⟨s, 0, none⟩)) W := fun W _ => sl_a0 W s
        have c3 : ∀ W, (Blk W s (slI d1 d2 (some ⟨b, 0, none⟩) n c N.armed N.budget N.dead) 81 ∧ Blk W b7 x.cells 87) → (Instr.loadAt 78 (.pointer (some ⟨s, 0, none⟩))).run Tryd.prog W = .ok (.map (some d1)) W := fun W h => sl_l0 h.1
        have c4 : ∀ W, (Blk W s (slI d1 d2 (some ⟨b, 0, none⟩) n c N.armed N.budget N.dead) 81 ∧ Blk W b7 x.cells 87) → (Instr.loadAt 87 (.pointer (some ⟨b7, 0, none⟩))).run Tryd.prog W = .ok (.agg x.cells) W := fun W h => pw_la h.2 hx6
        go_upto_region 9 with fail
        refine fh_start (S := (fun W => Blk W s (slI d1 d2 (some ⟨b, 0, none⟩) n c N.armed N.budget N.dead) 81 ∧ Blk W b7 x.cells 87)) (by kernel_rfl) (⟨hA6.out.blk, hY6⟩) (fun hS => ?_)
        generalize ha : Act.mk _ _ = a0
        have hn : a0.tmps.size = 37 := by rw [← ha]; kernel_rfl
        have h0 : (fr a0 []).eval (.tmp 0) = .pointer (some ⟨s, 0, none⟩) := by rw [← ha]; kernel_rfl
        refine fh_know hn rfl h0 ?_
        clear h0
        have h6 : (fr a0 [(0, true, .pointer (some ⟨s, 0, none⟩))]).eval (.tmp 6) = .pointer (some ⟨b7, 0, none⟩) := by rw [← ha]; kernel_rfl
        refine fh_know hn rfl h6 ?_
        clear h6
        first | refine h_mv 0 hn hS ?_ | refine h_as 0 hn hS ?_ | refine h_fd 0 hn hS ?_ | refine h_ld 0 hn hS ?_ | refine h_nc 0 hn hS ?_ | refine h_cv 0 hn hS ?_ | refine h_ex 0 hn hS ?_ | refine h_nt 0 hn hS ?_ | refine h_ix 0 hn hS ?_ | refine h_lk 0 hn hS ?_
        first | refine h_mv 1 hn hS ?_ | refine h_as 1 hn hS ?_ | refine h_fd 1 hn hS ?_ | refine h_ld 1 hn hS ?_ | refine h_nc 1 hn hS ?_ | refine h_cv 1 hn hS ?_ | refine h_ex 1 hn hS ?_ | refine h_nt 1 hn hS ?_ | refine h_ix 1 hn hS ?_ | refine h_lk 1 hn hS ?_
        first | refine h_mv 2 hn hS ?_ | refine h_as 2 hn hS ?_ | refine h_fd 2 hn hS ?_ | refine h_ld 2 hn hS ?_ | refine h_nc 2 hn hS ?_ | refine h_cv 2 hn hS ?_ | refine h_ex 2 hn hS ?_ | refine h_nt 2 hn hS ?_ | refine h_ix 2 hn hS ?_ | refine h_lk 2 hn hS ?_
        first | refine h_mv 3 hn hS ?_ | refine h_as 3 hn hS ?_ | refine h_fd 3 hn hS ?_ | refine h_ld 3 hn hS ?_ | refine h_nc 3 hn hS ?_ | refine h_cv 3 hn hS ?_ | refine h_ex 3 hn hS ?_ | refine h_nt 3 hn hS ?_ | refine h_ix 3 hn hS ?_ | refine h_lk 3 hn hS ?_
        first | refine h_mv 4 hn hS ?_ | refine h_as 4 hn hS ?_ | refine h_fd 4 hn hS ?_ | refine h_ld 4 hn hS ?_ | refine h_nc 4 hn hS ?_ | refine h_cv 4 hn hS ?_ | refine h_ex 4 hn hS ?_ | refine h_nt 4 hn hS ?_ | refine h_ix 4 hn hS ?_ | refine h_lk 4 hn hS ?_
        refine h_c2 5 enters_do hn (doK_any B s (N.keeps f (N.pend.take k)) d1 d2 (some ⟨b, 0, none⟩) n c x (World.drew w6) hA6.out.drew hx6) ?_
        rintro v w7 ⟨rfl, hX7, hK7, hb⟩
        refine ⟨⟨hX7.blk, hb _ _ _ hY6⟩, ?_⟩
        refine fh_end (by kernel_rfl) ?_
        clear hn c1 c3 c4
        subst ha
        dsimp only [fr, cnd, Act.put, cond_true]
        simp only [List.setIfInBounds_toArray, List.set_cons_zero, List.set_cons_succ]
        rw [e] at hX7
        have hA7 := Lib.hid hX7
        have hK8 := Lib.hid (hK6.out.trans hK7.undrew)
        clear hX7 hK7 hb hY6 e hS hA6 hK6
        go_wp2_with fail
        go_roundw
        case rel => exact ⟨k + 1, by omega, by go_num, hA7, hK8⟩
        case measure => simp [intOf]; omega
    · have hq : ¬ (k : Int) < (n : Int) := by omega
      have hA2 := hA.out
      rw [List.take_of_length_le (by have := HL.out; omega)] at hA2
      have hKk := hK.out
      have hFo := forget_any B s (N.keeps f N.pend) f wr hA2.slr
      clear hA hK hA2
      go_upto_region 11 with fail
      refine wp_region_lit ?_
      refine fl_start ?_
      generalize ha : Act.mk _ _ = a0
      have hn : a0.tmps.size = 37 := by rw [← ha]; kernel_rfl
      have h0 : (fr a0 []).eval (.tmp 0) = .pointer (some ⟨s, 0, none⟩) := by rw [← ha]; kernel_rfl
      refine fl_know hn rfl h0 ?_
      clear h0
      have h1 : (fr a0 [(0, true, .pointer (some ⟨s, 0, none⟩))]).eval (.tmp 1) = .int .i64 f := by rw [← ha]; kernel_rfl
      refine fl_know hn rfl h1 ?_
      clear h1
      repeat first | refine g_mv hn ?_ | refine g_as hn ?_ | refine g_fd hn ?_ | refine g_ld hn ?_ | refine g_nc hn ?_ | refine g_nt hn ?_ | refine g_an hn ?_ | refine g_or hn ?_ | refine g_ln hn ?_ | refine g_ex hn ?_ | refine g_neq2 hn ?_ | refine g_neq hn ?_ | refine g_eql2 hn ?_ | refine g_eql hn ?_ | refine g_leq2 hn ?_ | refine g_leq hn ?_ | refine g_lss2 hn ?_ | refine g_lss hn ?_ | refine g_gtr2 hn ?_ | refine g_gtr hn ?_ | refine g_geq2 hn ?_ | refine g_geq hn ?_ | refine g_b0 hn ?_ | refine g_bn hn ?_ | refine g_bc hn ?_ | refine g_cv hn ?_ | refine g_ac hn ?_ | refine g_mc hn ?_
      refine g_c2x enters_forget hn (R := fun _ w5 => SlR B w5 s (N.flushes f) ∧ StK B wr w5) (hFo.mono fun _ _ ⟨he, h1, h2⟩ => ⟨_, he, h1, h2⟩) ?_
      rintro _ w5 ⟨hR5, hK5⟩
      refine fl_end ?_
      clear hn
      subst ha
      dsimp only [fr, cnd, Act.put, cond_true]
      simp only [List.setIfInBounds_toArray, List.set_cons_zero, List.set_cons_succ]
      have R := Lib.hid (hFin.out w5 ⟨hR5, hKk.trans hK5⟩)
      clear hR5 hKk hK5 hFo
      go_wp2_with fail
      go_ret
      exact R.out
end Go.Proofs.YtgbopikhdpmmcaaDoor
