/-
  WHAT IS PROVED: slate's Flush. Conditions: those typed in each theorem. · ranges over a map, with the iterator anywhere; maps.Clone of a file's blocks; a disk copied. Conditions: those typed in each theorem. · a disk copied. Conditions: those typed in each theorem.
-/
import Derived.Test.YtjbmhbnlanbbkaaDoorGQ5
import Derived.Laws.IdiomRangeMap
import Derived.Shelf.SlMaps.Clone
namespace Go.Proofs.YtjbmhbnlanbbkaaDoor
open Go.RowKit

/-- A slate in memory, with its maps and its row by name. -/
def SlX (B : Nat) (W : World) (s : Nat) (M : Sl) (d1 d2 : Nat) (A : Option Addr) (n c : Nat) : Prop :=
  ∃ (tg : Nat → Nat × Int) (f1 f2 : Int → Option Value), Blk W s (slI d1 d2 A n c M.armed M.budget M.dead) 44 ∧ B ≤ s ∧ DkR B tg 0 W d1 M.kept f1 ∧ DkR B tg 1 W d2 M.seen f2 ∧ OwnX 61 66 B W A n c (M.pend.map Pw.cells) ∧
    (∀ x, x ∈ M.pend → x.l.length = 64) ∧ 0 ≤ M.budget ∧ M.budget ≤ 1099511627776 ∧ B ≤ W.heap.size
theorem SlX.slr {B : Nat} {W : World} {s : Nat} {M : Sl} {d1 d2 : Nat} {A : Option Addr} {n c : Nat} (h : SlX B W s M d1 d2 A n c) : SlR B W s M := by
  obtain ⟨tg, f1, f2, h⟩ := h
  exact ⟨tg, d1, d2, f1, f2, A, n, c, h⟩
theorem SlR.slx {B : Nat} {W : World} {s : Nat} {M : Sl} (h : SlR B W s M) : ∃ d1 d2 A n c, SlX B W s M d1 d2 A n c := by
  obtain ⟨tg, d1, d2, f1, f2, A, n, c, h⟩ := h
  exact ⟨d1, d2, A, n, c, tg, f1, f2, h⟩
section
variable {B : Nat} {W W' : World} {s : Nat} {M : Sl} {d1 d2 : Nat} {A : Option Addr} {n c : Nat}
theorem SlX.blk (h : SlX B W s M d1 d2 A n c) : Blk W s (slI d1 d2 A n c M.armed M.budget M.dead) 44 := by
  obtain ⟨_, _, _, h, _⟩ := h
  exact h
theorem SlX.own (h : SlX B W s M d1 d2 A n c) : OwnX 61 66 B W A n c (M.pend.map Pw.cells) := by
  obtain ⟨_, _, _, _, _, _, _, h, _⟩ := h
  exact h
theorem SlX.p6 (h : SlX B W s M d1 d2 A n c) : ∀ x, x ∈ M.pend → x.l.length = 64 := by
  obtain ⟨_, _, _, _, _, _, _, _, h, _⟩ := h
  exact h
theorem SlX.size (h : SlX B W s M d1 d2 A n c) : B ≤ W.heap.size := h.slr.size
theorem SlX.len (h : SlX B W s M d1 d2 A n c) : M.pend.length = n := by have := h.own.len; rwa [List.length_map] at this
theorem SlX.below (h : SlX B W s M d1 d2 A n c) (hb : Below W.heap.size W W') : SlX B W' s M d1 d2 A n c := by
  obtain ⟨tg, f1, f2, h1, h2, h3, h4, h5, h6, h7, h8, h9⟩ := h
  exact ⟨tg, f1, f2, h1.keep hb, h2, h3.below hb, h4.below hb, h5.keep hb, h6, h7, h8, Nat.le_trans h9 hb.size⟩
theorem SlX.drew (h : SlX B W s M d1 d2 A n c) : SlX B W.drew s M d1 d2 A n c := h.below ⟨rfl, rfl, rfl, Nat.le_refl _, fun _ _ => rfl⟩
theorem SlX.stk (h : SlX B W s M d1 d2 A n c) (hb : Below W.heap.size W W') : StK B W W' := StK.of_below hb h.size
end
theorem StK.drew {B : Nat} {W W' : World} (h : StK B W W') : StK B W W'.drew := ⟨⟨h.bel.os, h.bel.tape, h.bel.output, h.bel.size, h.bel.block⟩, h.cel⟩
theorem StK.undrew {B : Nat} {W W' : World} (h : StK B W.drew W') : StK B W W' := ⟨⟨h.bel.os, h.bel.tape, h.bel.output, h.bel.size, h.bel.block⟩, h.cel⟩
theorem DoK.stk {B : Nat} {tg : Nat → Nat × Int} {k : Nat} {W W' : World} (h : DoK B tg k W W') : StK B W W' := ⟨h.bel, fun x cs t fr hx _ _ => h.cel x cs t fr hx⟩
def Sl.doK (M : Sl) (x : Pw) : Sl := { M with kept := putD M.kept x }
def Sl.doS (M : Sl) (x : Pw) : Sl := { M with seen := putD M.seen x }
/-- What a write upon one of a slate's disks leaves. -/
def DoX (B s : Nat) (M : Sl) (d1 d2 : Nat) (A : Option Addr) (n c : Nat) (W : World) (v : Value) (W' : World) : Prop := v = .tuple #[] ∧ SlX B W' s M d1 d2 A n c ∧ StK B W W' ∧ ∀ b cs t, Blk W b cs t → Blk W' b cs t
theorem doK_any (B s : Nat) (M : Sl) (d1 d2 : Nat) (A : Option Addr) (n c : Nat) (x : Pw) (W : World) (hX : SlX B W s M d1 d2 A n c) (hx : x.l.length = 64) : Calls Tryd.prog 26 #[.map (some d1), .agg x.cells] W fun e W' => ∃ v, e = .returned v ∧ DoX B s (M.doK x) d1 d2 A n c W v W' := by
  obtain ⟨tg, f1, f2, h1, h2, h3, h4, h5, h6, h7, h8, h9⟩ := hX
  refine (do_any B tg 0 d1 M.kept f1 x W h3 hx h9).mono fun _ w' ⟨he, tg', f', ht, hD, hK⟩ => ⟨_, he, rfl, ⟨tg', f', f2, hK.blk h1, h2, hD, h4.keep ht fun y hy hq => hK.oth y hy (by rcases hq with h | h <;> omega) (by rcases hq with h | h <;> omega), h5.same fun y cs hy => hK.cel y cs _ _ hy, h6, h7, h8, Nat.le_trans h9 hK.bel.size⟩, hK.stk, fun b cs t hb => hK.blk hb⟩
theorem doS_any (B s : Nat) (M : Sl) (d1 d2 : Nat) (A : Option Addr) (n c : Nat) (x : Pw) (W : World) (hX : SlX B W s M d1 d2 A n c) (hx : x.l.length = 64) : Calls Tryd.prog 26 #[.map (some d2), .agg x.cells] W fun e W' => ∃ v, e = .returned v ∧ DoX B s (M.doS x) d1 d2 A n c W v W' := by
  obtain ⟨tg, f1, f2, h1, h2, h3, h4, h5, h6, h7, h8, h9⟩ := hX
  refine (do_any B tg 1 d2 M.seen f2 x W h4 hx h9).mono fun _ w' ⟨he, tg', f', ht, hD, hK⟩ => ⟨_, he, rfl, ⟨tg', f1, f', hK.blk h1, h2, h3.keep ht fun y hy hq => hK.oth y hy (by rcases hq with h | h <;> omega) (by rcases hq with h | h <;> omega), hD, h5.same fun y cs hy => hK.cel y cs _ _ hy, h6, h7, h8, Nat.le_trans h9 hK.bel.size⟩, hK.stk, fun b cs t hb => hK.blk hb⟩
/-- The writes of a file, done upon a disk. -/
def keptF (D : Dk) (f : Int) (l : List Pw) : Dk := l.foldl (fun D x => if x.f == f then putD D x else D) D
theorem keptF_add (D : Dk) (f : Int) {l : List Pw} {k : Nat} {x : Pw} (hx : l[k]? = some x) : keptF D f (l.take (k + 1)) = if x.f == f then putD (keptF D f (l.take k)) x else keptF D f (l.take k) := by
  unfold keptF
  rw [List.take_add_one, hx, Option.toList_some, List.foldl_append]
  rfl
def Sl.keeps (M : Sl) (f : Int) (l : List Pw) : Sl := { M with kept := keptF M.kept f l }
def Sl.flushes (M : Sl) (f : Int) : Sl := (M.keeps f M.pend).forgets f
def flM (M : Sl) (f : Int) : Sl := bif fileB f then (bif M.spent then M.stepped else M.stepped.flushes f) else M
theorem enters_Flush : ∀ args w, (callFunc 12 args).run Tryd.prog w = .ok (.enter 12 args) w := enters_of Tryd.func12 (by kernel_rfl) rfl

set_option maxRecDepth 100000 in
set_option maxHeartbeats 4000000 in
theorem flush_any (S : Addr) (B s : Nat) (M : Sl) (f : Int) (W : World) (hR : SlR B W s M) (hE : LaidE S W) (hg : 0 < B) :
    Calls Tryd.prog 12 #[.pointer (some ⟨s, 0, none⟩), .int .i64 f] W fun e W' => e = .returned (.int .i64 (rmCode M f)) ∧ SlR B W' s (flM M f) ∧ StK B W W' := by
  have HR := Lib.hid hR
  have HE := Lib.hid hE
  clear hR hE
  go_enter Tryd.func12, Tryd.ntmps12
  go_upto_region 1 with fail
  refine wp_region_lit ?_
  refine fl_start ?_
  generalize ha : Act.mk _ _ = a0
  have hn : a0.tmps.size = 37 := by rw [← ha]; kernel_rfl
  have h0 : (fr a0 []).eval (.tmp 0) = .pointer (some ⟨s, 0, none⟩) := by rw [← ha]; kernel_rfl
  refine fl_know hn rfl h0 ?_
  clear h0
  have h1 : (fr a0 [(0, true, .pointer (some ⟨s, 0, none⟩))]).eval (.tmp 1) = .int .i64 f := by rw [← ha]; kernel_rfl
  refine fl_know hn rfl h1 ?_
  clear h1
  refine g_mv hn ?_
  refine g_c1x enters_isFile hn (R := fun v w2 => v = .bool (fileB f) ∧ w2 = W) ((isFile_any f W).mono fun _ _ ⟨he, hw⟩ => ⟨_, he, rfl, hw⟩) ?_
  rintro v w2 ⟨rfl, rfl⟩
  repeat first | refine g_mv hn ?_ | refine g_as hn ?_ | refine g_fd hn ?_ | refine g_ld hn ?_ | refine g_nc hn ?_ | refine g_nt hn ?_ | refine g_an hn ?_ | refine g_or hn ?_ | refine g_ln hn ?_ | refine g_ex hn ?_ | refine g_neq2 hn ?_ | refine g_neq hn ?_ | refine g_eql2 hn ?_ | refine g_eql hn ?_ | refine g_leq2 hn ?_ | refine g_leq hn ?_ | refine g_lss2 hn ?_ | refine g_lss hn ?_ | refine g_gtr2 hn ?_ | refine g_gtr hn ?_ | refine g_geq2 hn ?_ | refine g_geq hn ?_ | refine g_b0 hn ?_ | refine g_bn hn ?_ | refine g_bc hn ?_ | refine g_cv hn ?_ | refine g_ac hn ?_ | refine g_mc hn ?_
  refine fl_end ?_
  clear hn
  subst ha
  dsimp only [fr, cnd, Act.put, cond_true]
  simp only [List.setIfInBounds_toArray, List.set_cons_zero, List.set_cons_succ]
  cases hok : fileB f with
  | false =>
    have R : Hid (Ending.returned (.int .i64 1) = Ending.returned (.int .i64 (rmCode M f)) ∧ SlR B w2 s (flM M f) ∧ StK B w2 w2) := by
      show _ ∧ _ ∧ _
      unfold rmCode flM
      rw [hok]
      exact ⟨rfl, HR.out, StK.refl _ _⟩
    clear hok
    go_wp2_with fail
    go_ret
    exact R.out
  | true =>
  have HOK := Lib.hid hok
  clear hok
  go_upto_region 3 with fail
  refine fh_start (S := (fun W => LaidE S W)) (by kernel_rfl) (HE.out) (fun hS => ?_)
  generalize ha : Act.mk _ _ = a0
  have hn : a0.tmps.size = 37 := by rw [← ha]; kernel_rfl
  have h0 : (fr a0 []).eval (.tmp 0) = .pointer (some ⟨s, 0, none⟩) := by rw [← ha]; kernel_rfl
  refine fh_know hn rfl h0 ?_
  clear h0
  refine h_mv 0 hn hS ?_
  have cg : ∀ W, LaidE S W → (Instr.loadAt 57 (.pointer (some ⟨0, 0, none⟩))).run Tryd.prog W = .ok (.iface 93 (.pointer (some S))) W := fun W h => ld_err h
  refine h_lg 2 hn hS ?_ (u := .pointer (some ⟨0, 0, none⟩))
  refine h_c1 1 enters_step hn (step_sl S B s M (World.drew w2) HR.out.drew hS hg) ?_
  rintro v w3 ⟨rfl, hR3, hK3, hE3⟩
  replace hS := hE3
  refine ⟨hS, ?_⟩
  refine h_c2 3 enters_Is hn (isErr_any S M.armed M.budget w3) ?_
  rintro v w4 ⟨rfl, rfl⟩
  refine ⟨hS, ?_⟩
  refine fh_end (by kernel_rfl) ?_
  clear hn cg
  subst ha
  dsimp only [fr, cnd, Act.put, cond_true]
  simp only [List.setIfInBounds_toArray, List.set_cons_zero, List.set_cons_succ]
  have hK0 : StK B w2 w4 := ⟨⟨hK3.bel.os, hK3.bel.tape, hK3.bel.output, hK3.bel.size, hK3.bel.block⟩, hK3.cel⟩
  clear hK3 hS hE3
  cases hsp : spentB M.armed M.budget with
  | true =>
    have R : Hid (Ending.returned (.int .i64 7) = Ending.returned (.int .i64 (rmCode M f)) ∧ SlR B w4 s (flM M f) ∧ StK B w2 w4) := by
      show _ ∧ _ ∧ _
      unfold rmCode flM Sl.spent
      rw [HOK.out, hsp]
      exact ⟨rfl, hR3, hK0⟩
    clear hsp hR3 hK0
    go_wp2_with fail
    go_ret
    exact R.out
  | false =>
  have HSP := Lib.hid hsp
  clear hsp
  have hFin : Hid (∀ w9, SlR B w9 s (M.stepped.flushes f) ∧ StK B w4 w9 → Ending.returned (.int .i64 0) = Ending.returned (.int .i64 (rmCode M f)) ∧ SlR B w9 s (flM M f) ∧ StK B w2 w9) := by
    intro w9 h
    unfold rmCode flM Sl.spent
    rw [HOK.out, HSP.out]
    exact ⟨rfl, h.1, hK0.trans h.2⟩
  clear HSP HOK hK0
  generalize M.stepped = N at hR3 hFin
  obtain ⟨d1, d2, A, n, c, hX⟩ := hR3.slx
  clear hR3
  have hlen := hX.len
  have hcap := hX.own.cap
  unfold maxLen at hcap
  have a2 := sl_a2 w4 s
  have l2 := sl_l2 hX.blk
  go_upto_region 5 with fail
  refine wp_region_lit ?_
  refine fl_start ?_
  generalize ha : Act.mk _ _ = a0
  have hn : a0.tmps.size = 37 := by rw [← ha]; kernel_rfl
  have h0 : (fr a0 []).eval (.tmp 0) = .pointer (some ⟨s, 0, none⟩) := by rw [← ha]; kernel_rfl
  refine fl_know hn rfl h0 ?_
  clear h0
  repeat first | refine g_mv hn ?_ | refine g_as hn ?_ | refine g_fd hn ?_ | refine g_ld hn ?_ | refine g_nc hn ?_ | refine g_nt hn ?_ | refine g_an hn ?_ | refine g_or hn ?_ | refine g_ln hn ?_ | refine g_ex hn ?_ | refine g_neq2 hn ?_ | refine g_neq hn ?_ | refine g_eql2 hn ?_ | refine g_eql hn ?_ | refine g_leq2 hn ?_ | refine g_leq hn ?_ | refine g_lss2 hn ?_ | refine g_lss hn ?_ | refine g_gtr2 hn ?_ | refine g_gtr hn ?_ | refine g_geq2 hn ?_ | refine g_geq hn ?_ | refine g_b0 hn ?_ | refine g_bn hn ?_ | refine g_bc hn ?_ | refine g_cv hn ?_ | refine g_ac hn ?_ | refine g_mc hn ?_
  refine fl_end ?_
  clear hn
  subst ha
  dsimp only [fr, cnd, Act.put, cond_true]
  simp only [List.setIfInBounds_toArray, List.set_cons_zero, List.set_cons_succ]
  clear a2 l2
  have HX0 : Hid (SlX B w4 s (N.keeps f (N.pend.take 0)) d1 d2 A n c) := hX
  have HL := Lib.hid hlen
  have H6 := Lib.hid hX.p6
  have HK : Hid (StK B w4 w4) := StK.refl _ _
  clear hX
  go_wp2_with fail
  go_loopw [6, 19] (fun _ i wr => ∃ k : Nat, k ≤ n ∧ i = .int .i64 k ∧ Hid (SlX B wr s (N.keeps f (N.pend.take k)) d1 d2 A n c) ∧ Hid (StK B w4 wr)) (fun _ i _ => n - (intOf i).toNat)
  case atStart => exact ⟨0, Nat.zero_le _, rfl, HX0, HK⟩
  case round =>
    clear HX0 HK
    obtain ⟨k, hk, rfl, hA, hK⟩ := hrel
    by_cases hlt : k < n
    · obtain ⟨x, hx⟩ : ∃ x, N.pend[k]? = some x := ⟨_, List.getElem?_eq_getElem (show k < N.pend.length by have := HL.out; omega)⟩
      have hx6 := H6.out x (List.mem_of_getElem? hx)
      obtain ⟨b, rfl, hbl, hc⟩ := hA.out.own.rdp k x hx
      have i1 : (0 : Int) ≤ (k : Int) := by omega
      have i2 : (k : Int) < (n : Int) := by omega
      have k1 := ix_p wr b n c k hlt
      have k2 := ld_p (k := k) hx6 hc
      clear hc
      go_upto_region 7 with fail
      refine wp_region_lit ?_
      refine fl_start ?_
      generalize ha : Act.mk _ _ = a0
      have hn : a0.tmps.size = 37 := by rw [← ha]; kernel_rfl
      have h17 : (fr a0 []).eval (.tmp 17) = .slice (some ⟨b, 0, none⟩) n c := by rw [← ha]; kernel_rfl
      refine fl_know hn rfl h17 ?_
      clear h17
      have h19 : (fr a0 [(17, true, .slice (some ⟨b, 0, none⟩) n c)]).eval (.tmp 19) = .int .i64 k := by rw [← ha]; kernel_rfl
      refine fl_know hn rfl h19 ?_
      clear h19
      repeat first | refine g_mv hn ?_ | refine g_as hn ?_ | refine g_ix hn ?_ | refine g_fd hn ?_ | refine g_ld hn ?_ | refine g_nc hn ?_ | refine g_nt hn ?_ | refine g_an hn ?_ | refine g_or hn ?_ | refine g_ln hn ?_ | refine g_ex hn ?_ | refine g_neq2 hn ?_ | refine g_neq hn ?_ | refine g_eql2 hn ?_ | refine g_eql hn ?_ | refine g_leq2 hn ?_ | refine g_leq hn ?_ | refine g_lss2 hn ?_ | refine g_lss hn ?_ | refine g_gtr2 hn ?_ | refine g_gtr hn ?_ | refine g_geq2 hn ?_ | refine g_geq hn ?_ | refine g_b0 hn ?_ | refine g_bn hn ?_ | refine g_bc hn ?_ | refine g_cv hn ?_ | refine g_ac hn ?_ | refine g_mc hn ?_
      refine g_w hn (w2 := wr.alloc (.cells (⟨0, 0, z64⟩ : Pw).cells 61)) (v := .pointer (some ⟨wr.heap.size, 0, none⟩)) (fun _ => by unfold execOp; dsimp only; rw [Sem.run_bind, run_alW]; rfl) ?_
      have hY := blk_new wr (⟨0, 0, z64⟩ : Pw).cells 61
      have hB := b0 wr (.cells (⟨0, 0, z64⟩ : Pw).cells 61)
      generalize wr.alloc (.cells (⟨0, 0, z64⟩ : Pw).cells 61) = w5 at hY hB ⊢
      generalize hb7 : wr.heap.size = b7 at hY hB ⊢
      refine g_str hY ?_ (hs := by rw [pw_size hx6]; exact pw_size rfl) (hi := by rw [pw_size hx6]; kernel_rfl) (h1 := pw_one _)
      intro w6 ho6 hY6
      refine fl_end ?_
      clear hn
      subst ha
      dsimp only [fr, cnd, Act.put, cond_true]
      simp only [List.setIfInBounds_toArray, List.set_cons_zero, List.set_cons_succ]
      replace hB : Below wr.heap.size wr w6 := by
        rw [hb7]
        exact hB.trans (ho6.below (Nat.le_refl _))
      clear k1 k2 hY ho6
      have hA6 := Lib.hid (hA.out.below hB)
      have hK6 := Lib.hid (hK.out.trans (hA.out.stk hB))
      have f0 := pw_f0 w6 b7
      have l0 := pw_l0 hY6
      clear hA hK
      go_upto_region 8 with fail
      refine wp_region_lit ?_
      refine fl_start ?_
      generalize ha : Act.mk _ _ = a0
      have hn : a0.tmps.size = 37 := by rw [← ha]; kernel_rfl
      have h1 : (fr a0 []).eval (.tmp 1) = .int .i64 f := by rw [← ha]; kernel_rfl
      refine fl_know hn rfl h1 ?_
      clear h1
      have h6 : (fr a0 [(1, true, .int .i64 f)]).eval (.tmp 6) = .pointer (some ⟨b7, 0, none⟩) := by rw [← ha]; kernel_rfl
      refine fl_know hn rfl h6 ?_
      clear h6
      repeat first | refine g_mv hn ?_ | refine g_as hn ?_ | refine g_fd hn ?_ | refine g_ld hn ?_ | refine g_nc hn ?_ | refine g_nt hn ?_ | refine g_an hn ?_ | refine g_or hn ?_ | refine g_ln hn ?_ | refine g_ex hn ?_ | refine g_neq2 hn ?_ | refine g_neq hn ?_ | refine g_eql2 hn ?_ | refine g_eql hn ?_ | refine g_leq2 hn ?_ | refine g_leq hn ?_ | refine g_lss2 hn ?_ | refine g_lss hn ?_ | refine g_gtr2 hn ?_ | refine g_gtr hn ?_ | refine g_geq2 hn ?_ | refine g_geq hn ?_ | refine g_b0 hn ?_ | refine g_bn hn ?_ | refine g_bc hn ?_ | refine g_cv hn ?_ | refine g_ac hn ?_ | refine g_mc hn ?_
      refine fl_end ?_
      clear hn
      subst ha
      dsimp only [fr, cnd, Act.put, cond_true]
      simp only [List.setIfInBounds_toArray, List.set_cons_zero, List.set_cons_succ]
      clear f0 l0
      cases hpx : (x.f == f) with
      | false =>
        have e : N.keeps f (N.pend.take k) = N.keeps f (N.pend.take (k + 1)) := by
          unfold Sl.keeps
          rw [keptF_add _ _ hx, hpx]
          rfl
        rw [e] at hA6
        clear hpx hY6 e
        go_wp2_with fail
        go_roundw
        case rel => exact ⟨k + 1, by omega, by go_num, hA6, hK6⟩
        case measure => simp [intOf]; omega
      | true =>
        have e : (N.keeps f (N.pend.take k)).doK x = N.keeps f (N.pend.take (k + 1)) := by
          unfold Sl.keeps Sl.doK
          rw [keptF_add _ _ hx, hpx]
          rfl
        clear hpx
        have c1 : ∀ W, (Blk W s (slI d1 d2 (some ⟨b, 0, none⟩) n c N.armed N.budget N.dead) 44 ∧ Blk W b7 x.cells 61) → (Instr.fieldAt 44 (.pointer (some ⟨s, 0, none⟩)) 0).run Tryd.prog W = .ok (.pointer (some ⟨s, 0, none⟩)) W := fun W _ => sl_a0 W s
        have c3 : ∀ W, (Blk W s (slI d1 d2 (some ⟨b, 0, none⟩) n c N.armed N.budget N.dead) 44 ∧ Blk W b7 x.cells 61) → (Instr.loadAt 41 (.pointer (some ⟨s, 0, none⟩))).run Tryd.prog W = .ok (.map (some d1)) W := fun W h => sl_l0 h.1
        have c4 : ∀ W, (Blk W s (slI d1 d2 (some ⟨b, 0, none⟩) n c N.armed N.budget N.dead) 44 ∧ Blk W b7 x.cells 61) → (Instr.loadAt 61 (.pointer (some ⟨b7, 0, none⟩))).run Tryd.prog W = .ok (.agg x.cells) W := fun W h => pw_la h.2 hx6
        go_upto_region 9 with fail
        refine fh_start (S := (fun W => Blk W s (slI d1 d2 (some ⟨b, 0, none⟩) n c N.armed N.budget N.dead) 44 ∧ Blk W b7 x.cells 61)) (by kernel_rfl) (⟨hA6.out.blk, hY6⟩) (fun hS => ?_)
        generalize ha : Act.mk _ _ = a0
        have hn : a0.tmps.size = 37 := by rw [← ha]; kernel_rfl
        have h0 : (fr a0 []).eval (.tmp 0) = .pointer (some ⟨s, 0, none⟩) := by rw [← ha]; kernel_rfl
        refine fh_know hn rfl h0 ?_
        clear h0
        have h6 : (fr a0 [(0, true, .pointer (some ⟨s, 0, none⟩))]).eval (.tmp 6) = .pointer (some ⟨b7, 0, none⟩) := by rw [← ha]; kernel_rfl
        refine fh_know hn rfl h6 ?_
        clear h6
        first | refine h_mv 0 hn hS ?_ | refine h_as 0 hn hS ?_ | refine h_fd 0 hn hS ?_ | refine h_ld 0 hn hS ?_ | refine h_nc 0 hn hS ?_ | refine h_cv 0 hn hS ?_ | refine h_ex 0 hn hS ?_ | refine h_nt 0 hn hS ?_ | refine h_ix 0 hn hS ?_ | refine h_lk 0 hn hS ?_
        first | refine h_mv 1 hn hS ?_ | refine h_as 1 hn hS ?_ | refine h_fd 1 hn hS ?_ | refine h_ld 1 hn hS ?_ | refine h_nc 1 hn hS ?_ | refine h_cv 1 hn hS ?_ | refine h_ex 1 hn hS ?_ | refine h_nt 1 hn hS ?_ | refine h_ix 1 hn hS ?_ | refine h_lk 1 hn hS ?_
        first | refine h_mv 2 hn hS ?_ | refine h_as 2 hn hS ?_ | refine h_fd 2 hn hS ?_ | refine h_ld 2 hn hS ?_ | refine h_nc 2 hn hS ?_ | refine h_cv 2 hn hS ?_ | refine h_ex 2 hn hS ?_ | refine h_nt 2 hn hS ?_ | refine h_ix 2 hn hS ?_ | refine h_lk 2 hn hS ?_
        first | refine h_mv 3 hn hS ?_ | refine h_as 3 hn hS ?_ | refine h_fd 3 hn hS ?_ | refine h_ld 3 hn hS ?_ | refine h_nc 3 hn hS ?_ | refine h_cv 3 hn hS ?_ | refine h_ex 3 hn hS ?_ | refine h_nt 3 hn hS ?_ | refine h_ix 3 hn hS ?_ | refine h_lk 3 hn hS ?_
        first | refine h_mv 4 hn hS ?_ | refine h_as 4 hn hS ?_ | refine h_fd 4 hn hS ?_ | refine h_ld 4 hn hS ?_ | refine h_nc 4 hn hS ?_ | refine h_cv 4 hn hS ?_ | refine h_ex 4 hn hS ?_ | refine h_nt 4 hn hS ?_ | refine h_ix 4 hn hS ?_ | refine h_lk 4 hn hS ?_
        refine h_c2 5 enters_do hn (doK_any B s (N.keeps f (N.pend.take k)) d1 d2 (some ⟨b, 0, none⟩) n c x (World.drew w6) hA6.out.drew hx6) ?_
        rintro v w7 ⟨rfl, hX7, hK7, hb⟩
        refine ⟨⟨hX7.blk, hb _ _ _ hY6⟩, ?_⟩
        refine fh_end (by kernel_rfl) ?_
        clear hn c1 c3 c4
        subst ha
        dsimp only [fr, cnd, Act.put, cond_true]
        simp only [List.setIfInBounds_toArray, List.set_cons_zero, List.set_cons_succ]
        rw [e] at hX7
        have hA7 := Lib.hid hX7
        have hK8 := Lib.hid (hK6.out.trans hK7.undrew)
        clear hX7 hK7 hb hY6 e hS hA6 hK6
        go_wp2_with fail
        go_roundw
        case rel => exact ⟨k + 1, by omega, by go_num, hA7, hK8⟩
        case measure => simp [intOf]; omega
    · have hq : ¬ (k : Int) < (n : Int) := by omega
      have hA2 := hA.out
      rw [List.take_of_length_le (by have := HL.out; omega)] at hA2
      have hKk := hK.out
      have hFo := forget_any B s (N.keeps f N.pend) f wr hA2.slr
      clear hA hK hA2
      go_upto_region 11 with fail
      refine wp_region_lit ?_
      refine fl_start ?_
      generalize ha : Act.mk _ _ = a0
      have hn : a0.tmps.size = 37 := by rw [← ha]; kernel_rfl
      have h0 : (fr a0 []).eval (.tmp 0) = .pointer (some ⟨s, 0, none⟩) := by rw [← ha]; kernel_rfl
      refine fl_know hn rfl h0 ?_
      clear h0
      have h1 : (fr a0 [(0, true, .pointer (some ⟨s, 0, none⟩))]).eval (.tmp 1) = .int .i64 f := by rw [← ha]; kernel_rfl
      refine fl_know hn rfl h1 ?_
      clear h1
      repeat first | refine g_mv hn ?_ | refine g_as hn ?_ | refine g_fd hn ?_ | refine g_ld hn ?_ | refine g_nc hn ?_ | refine g_nt hn ?_ | refine g_an hn ?_ | refine g_or hn ?_ | refine g_ln hn ?_ | refine g_ex hn ?_ | refine g_neq2 hn ?_ | refine g_neq hn ?_ | refine g_eql2 hn ?_ | refine g_eql hn ?_ | refine g_leq2 hn ?_ | refine g_leq hn ?_ | refine g_lss2 hn ?_ | refine g_lss hn ?_ | refine g_gtr2 hn ?_ | refine g_gtr hn ?_ | refine g_geq2 hn ?_ | refine g_geq hn ?_ | refine g_b0 hn ?_ | refine g_bn hn ?_ | refine g_bc hn ?_ | refine g_cv hn ?_ | refine g_ac hn ?_ | refine g_mc hn ?_
      refine g_c2x enters_forget hn (R := fun _ w5 => SlR B w5 s (N.flushes f) ∧ StK B wr w5) (hFo.mono fun _ _ ⟨he, h1, h2⟩ => ⟨_, he, h1, h2⟩) ?_
      rintro _ w5 ⟨hR5, hK5⟩
      refine fl_end ?_
      clear hn
      subst ha
      dsimp only [fr, cnd, Act.put, cond_true]
      simp only [List.setIfInBounds_toArray, List.set_cons_zero, List.set_cons_succ]
      have R := Lib.hid (hFin.out w5 ⟨hR5, hKk.trans hK5⟩)
      clear hR5 hKk hK5 hFo
      go_wp2_with fail
      go_ret
      exact R.out
end Go.Proofs.YtjbmhbnlanbbkaaDoor

namespace Go.Proofs.YtjbmhbnlanbbkaaDoor
open Go.RowKit Go.MapKept

section
variable {P : Program}
theorem heapset_at {W : World} {r : Nat} {o o2 : Obj} (h : W.heap[r]? = some o) : (W.heap.setIfInBounds r o2)[r]? = some o2 := by
  have := (Array.getElem?_eq_some_iff.1 h).1
  rw [Array.getElem?_setIfInBounds_self, if_pos this]
theorem run_next_at (W : World) (ty : TypeId) (r bm since c0 : Nat) (seen : Array Nat) (es : Array MapEntry) (clock : Nat) (hi : W.heap[r]? = some (.mapIter (some bm) since seen c0)) (hb : W.heap[bm]? = some (.map es clock)) (hold : ∀ x ∈ es.toList, x.born < since) (hsc : since ≤ c0) :
    ((leftOf es seen).size = 0 ∧ (Instr.next (.pointer (some ⟨r, 0, none⟩)) false ty).run P W = .ok (.tuple #[.bool false]) W) ∨
    ∃ e ∈ (leftOf es seen).toList, ∃ W' : World, Only1 r W W' ∧ W'.heap[r]? = some (.mapIter (some bm) since (seen.push e.born) clock) ∧ (Instr.next (.pointer (some ⟨r, 0, none⟩)) false ty).run P W = .ok (.tuple #[.bool true, e.key, e.val]) W' := by
  simp only [Instr.next, getObj, Sem.run_bind, Sem.run, hi, hb, Result.andThen, next_test_false seen es since c0 hold hsc, Bool.false_eq_true, if_false]
  unfold leftOf
  have hmem : ∀ x ∈ (Array.filter (fun e => !seen.contains e.born) es).toList, x.born < since := fun x hx => hold x (by simp at hx ⊢; exact hx.1)
  generalize Array.filter (fun e => !seen.contains e.born) es = L at hmem ⊢
  have e1 : L.filter (fun x => decide (x.born < since)) = L := Array.filter_eq_self.2 (fun x hx => by simpa using hmem x (by simpa using hx))
  have e2 : L.filter (fun x => decide (x.born ≥ since)) = #[] := by
    rw [Array.filter_eq_empty_iff]
    intro x hx
    have := hmem x (by simpa using hx)
    simp
    omega
  simp only [e1, e2, Array.append_empty]
  by_cases h0 : L.size = 0
  · left
    have : L = #[] := Array.eq_empty_of_size_eq_zero h0
    subst this
    refine ⟨rfl, ?_⟩
    simp [choose, Sem.run, Question.forced]
  · right
    have hne : L.isEmpty = false := by simp [Array.isEmpty, h0]
    simp only [hne, Bool.false_eq_true, if_false, Array.empty_append, Array.size_map]
    have hch : ∃ (j : Nat) (W1 : World), j < L.size ∧ Only1 r W W1 ∧ W1.heap[r]? = W.heap[r]? ∧ (choose (Question.mapNext L.size)).run P W = .ok j W1 := by
      by_cases hf : L.size ≤ 1
      · exact ⟨0, W, by omega, Only1.refl _ _, rfl, by simp [choose, Sem.run, Question.forced, hf]⟩
      · exact ⟨_, W.drew, Nat.mod_lt _ (by omega), ⟨rfl, rfl, rfl, rfl, fun _ _ => rfl⟩, rfl, by
          simp only [choose, Sem.run, Question.forced, decide_eq_true_eq, hf, if_false, Question.cut]
          rfl⟩
    obtain ⟨j, W1, hj, ho, hr, hrun⟩ := hch
    have hr1 := hr.trans hi
    refine ⟨L[j], by simp, { W1 with heap := W1.heap.setIfInBounds r (.mapIter (some bm) since (seen.push L[j].born) clock) }, ho.trans (only_set _ _ _), heapset_at hr1, ?_⟩
    have hset : ∀ (o' : Obj), (setObj r o').run P W1 = .ok () { W1 with heap := W1.heap.setIfInBounds r o' } := fun o' => by
      simp only [setObj, Sem.run]
      rw [hr1]
    simp only [hrun, Array.getElem?_map, Array.getElem?_eq_getElem hj, Option.map_some, Sem.run_bind, hset, Result.andThen]
    rfl
theorem run_entry_at (W : World) (r bm since : Nat) (seen : Array Nat) (es : Array MapEntry) (clock : Nat) (e : MapEntry) (hi : W.heap[r]? = some (.mapIter (some bm) since (seen.push e.born) clock)) (hb : W.heap[bm]? = some (.map es clock)) (he : e ∈ es.toList) (hn : (es.toList.map (·.born)).Nodup) :
    (Instr.entry (.pointer (some ⟨r, 0, none⟩))).run P W = .ok (.tuple #[e.key, e.val]) W := by
  have hf : es.find? (·.born == e.born) = some e := by rw [← Array.find?_toList]; exact find_born e es.toList hn he
  simp only [Instr.entry, getObj, Sem.run_bind, Sem.run, hi, hb, Result.andThen, Array.back?_push, bne_self_eq_false, Bool.false_eq_true, if_false, hf]
  rfl
/-- What an iterator has handed out. -/
def seenAt (W : World) (r : Nat) : Array Nat := match W.heap[r]? with
  | some (.mapIter _ _ s _) => s
  | _ => #[]
theorem seenAt_is {W : World} {r : Nat} {a : Option Nat} {b c : Nat} {s : Array Nat} (h : W.heap[r]? = some (.mapIter a b s c)) : seenAt W r = s := by
  unfold seenAt
  rw [h]
end
/-! maps.Clone. -/
theorem enters_Clone : ∀ args w, (callFunc 39 args).run Tryd.prog w = .ok (.enter 39 args) w := enters_of Tryd.func39 (by kernel_rfl) rfl

def ClnR (g : Int → Option Value) (W : World) (v : Value) (W' : World) : Prop := v = .map (some W.heap.size) ∧ MpI W' W.heap.size g ∧ Below W.heap.size W W' ∧ W'.heap.size = W.heap.size + 1
theorem cln_al {W : World} {c : Nat} {es : Array MapEntry} {clock : Nat} {g : Int → Option Value} (_hb : W.heap[c]? = some (.map es clock)) (h : Stamped es clock ∧ (∀ e, e ∈ es.toList → ∃ n, e.key = .int .i64 n ∧ g n = some e.val) ∧ ∀ n v, g n = some v → ∃ e, e ∈ es.toList ∧ e.key = .int .i64 n ∧ e.val = v) : ClnR g W (.map (some W.heap.size)) (W.alloc (.map es clock)) :=
  ⟨rfl, ⟨es, clock, heap_alloc_new _ _, h⟩, b0 W _, by simp⟩
set_option maxRecDepth 100000 in
set_option maxHeartbeats 4000000 in
theorem clone_mpi (c : Nat) (g : Int → Option Value) (W : World) (hm : MpI W c g) : Calls Tryd.prog 39 #[.map (some c)] W fun e W' => ∃ v, e = .returned v ∧ ClnR g W v W' := by
  obtain ⟨es, clock, hb, h⟩ := hm
  have hq := fun w => run_eql_map_nil_sl (P := Tryd.prog) w 66 _ _ (some c) mUnd2
  go_enter Tryd.func39, Tryd.ntmps39
  go_wp2_with fail
  rw [run_callFunc_extern Tryd.func41 (by kernel_rfl) (by kernel_rfl) (by kernel_rfl) (e := Extern.MapsClone.clone) (by kernel_rfl), run_maps_clone_sl W 66 hb]
  simp only [Result.andThen]
  rw [Oper.upon_value]
  have R : Hid (ClnR g W (.map (some W.heap.size)) (W.alloc (.map es clock))) := cln_al hb h
  clear hb h hq
  generalize W.alloc (.map es clock) = W2 at R ⊢
  go_wp2_with fail
  rw [run_typeAssert_map_sl _ 66 _ _ _ _ mUnd2]
  simp only [Result.andThen]
  rw [Oper.upon_value]
  go_wp2_with fail
  go_ret
  exact ⟨_, rfl, R.out⟩
end Go.Proofs.YtjbmhbnlanbbkaaDoor

namespace Go.Proofs.YtjbmhbnlanbbkaaDoor
open Go.RowKit Go.MapKept

theorem next_ty (x : Value) (a b : TypeId) : Instr.next x false a = Instr.next x false b := rfl
/-- A disk, of its files those of a list. -/
def someD (D : Dk) (ks : List Int) : Dk := fun n => if n ∈ ks then D n else none
theorem someD_nil (D : Dk) : someD D [] = fun _ => none := by
  funext n
  exact if_neg (by simp)
/-- One file more, its blocks in a map of its own. -/
theorem DkR.more {B : Nat} {tg : Nat → Nat × Int} {k : Nat} {W W' : World} {d c : Nat} {D : Dk} {ks : List Int} {f : Int → Option Value} {n : Int} {g : Int → Option (List UInt8)} (h : DkR B tg k W d (someD D ks) f) (ho : Only1 d W W') (hm : MpI W' d (upd f n (some (.map (some c))))) (hc : MpI W c (mpV g)) (ht : tg c = (k + 2, n)) (hBc : B ≤ c) (hD : D n = some g) (hl : ∀ m l, g m = some l → l.length = 64) : DkR B tg k W' d (someD D (n :: ks)) (upd f n (some (.map (some c)))) := by
  have hcd : ∀ {x : Nat} {m : Int}, tg x = (k + 2, m) → x ≠ d := fun hx e => by
    rw [e, h.tag] at hx
    injection hx with hx _
    omega
  refine ⟨hm, h.lo, h.tag, fun m hn => ?_, fun m v hv => ?_⟩
  · by_cases e : m = n
    · rw [e, upd_at] at hn
      cases hn
    · rw [upd_ne e] at hn
      have := h.no m hn
      unfold someD at *
      by_cases e2 : m ∈ ks
      · rw [if_pos e2] at this
        rw [this, ite_self]
      · exact if_neg (by simp [e, e2])
  · by_cases e : m = n
    · subst e
      rw [upd_at] at hv
      injection hv with hv
      exact ⟨c, g, hv.symm, ht, hBc, by unfold someD; rw [if_pos (by simp)]; exact hD, hc.other ho (hcd ht), hl⟩
    · rw [upd_ne e] at hv
      obtain ⟨c2, g2, h1, h2, h3, h4, h5, h6⟩ := h.yes m v hv
      refine ⟨c2, g2, h1, h2, h3, ?_, h5.other ho (hcd h2), h6⟩
      unfold someD at *
      by_cases e2 : m ∈ ks
      · rw [if_pos e2] at h4
        rw [if_pos (by simp [e2])]
        exact h4
      · rw [if_neg e2] at h4
        cases h4
/-- How a copy is on its way. -/
structure CopI (tg0 : Nat → Nat × Int) (k2 : Nat) (D : Dk) (W : World) (r d d2 : Nat) (es : Array MapEntry) (clock : Nat) (wr : World) (ks : List Int) (seen : Array Nat) (c0 : Nat) (tg2 : Nat → Nat × Int) (f2 : Int → Option Value) : Prop where
  it : wr.heap[r]? = some (.mapIter (some d) clock seen c0)
  cle : clock ≤ c0
  kd : ∀ e, e ∈ es.toList → seen.contains e.born = true → ∃ n, n ∈ ks ∧ e.key = .int .i64 n
  dk : DkR W.heap.size tg2 k2 wr d2 (someD D ks) f2
  tg : ∀ x, x < W.heap.size → tg2 x = tg0 x
  bel : Below W.heap.size W wr
  rlo : W.heap.size ≤ r
/-- What copied answers. -/
def CopR (tg0 : Nat → Nat × Int) (k2 : Nat) (D : Dk) (W : World) (v : Value) (W' : World) : Prop := ∃ (d2 : Nat) (tg2 : Nat → Nat × Int) (f2 : Int → Option Value), v = .map (some d2) ∧ (∀ x, x < W.heap.size → tg2 x = tg0 x) ∧ DkR W.heap.size tg2 k2 W' d2 D f2 ∧ Below W.heap.size W W'
theorem cop_end {tg0 : Nat → Nat × Int} {k2 : Nat} {D : Dk} {W : World} {r d d2 : Nat} {es : Array MapEntry} {clock : Nat} {wr : World} {ks : List Int} {seen : Array Nat} {c0 : Nat} {tg2 : Nat → Nat × Int} {f2 f : Int → Option Value} (h : CopI tg0 k2 D W r d d2 es clock wr ks seen c0 tg2 f2) (hs : (leftOf es seen).size = 0) (hno : ∀ n, f n = none → D n = none) (hf : ∀ n v, f n = some v → ∃ e, e ∈ es.toList ∧ e.key = .int .i64 n ∧ e.val = v) : CopR tg0 k2 D W (.map (some d2)) wr := by
  have e : someD D ks = D := by
    funext n
    unfold someD
    cases hn : f n with
    | none => rw [hno n hn, ite_self]
    | some v =>
      obtain ⟨e, he, hk, _⟩ := hf n v hn
      have hse : seen.contains e.born = true := by
        cases hc : seen.contains e.born with
        | true => rfl
        | false =>
          have : e ∈ leftOf es seen := by
            unfold leftOf
            rw [Array.mem_filter]
            exact ⟨by simpa using he, by rw [hc]; rfl⟩
          rw [Array.eq_empty_of_size_eq_zero hs] at this
          simp at this
      obtain ⟨n2, h1, h2⟩ := h.kd e he hse
      rw [hk] at h2
      rw [if_pos (by rw [key_int h2]; exact h1)]
  refine ⟨d2, tg2, f2, rfl, h.tg, ?_, h.bel⟩
  have := h.dk
  rwa [e] at this
theorem enters_copied : ∀ args w, (callFunc 29 args).run Tryd.prog w = .ok (.enter 29 args) w := enters_of Tryd.func29 (by kernel_rfl) rfl

theorem mapiter_maps {W W' : World} {r : Nat} {a : Option Nat} {b c : Nat} {s : Array Nat} (h : W.heap[r]? = some (.mapIter a b s c)) (ho : Only1 r W W') : ∀ (x : Nat) (es : Array MapEntry) (cl : Nat), W.heap[x]? = some (Obj.map es cl) → W'.heap[x]? = W.heap[x]? := fun x es cl hx => ho.block x (by
  rintro rfl
  rw [h] at hx
  cases hx)
set_option maxRecDepth 100000 in
set_option maxHeartbeats 4000000 in
theorem copied_any (B : Nat) (tg tg0 : Nat → Nat × Int) (k k2 d : Nat) (D : Dk) (f : Int → Option Value) (W : World) (hD : DkR B tg k W d D f) : Calls Tryd.prog 29 #[.map (some d)] W fun e W' => ∃ v, e = .returned v ∧ CopR tg0 k2 D W v W' := by
  have hdl := hD.mp.lt
  obtain ⟨es, clock, hb, ⟨hst1, hst2, hst3⟩, hk1, hk2⟩ := id hD.mp
  have HD := Lib.hid hD
  have HB := Lib.hid hb
  have HK1 := Lib.hid hk1
  have HK2 := Lib.hid hk2
  have HS1 := Lib.hid hst1
  have HS2 := Lib.hid hst2
  clear hD hb hk1 hk2 hst1 hst2 hst3
  go_enter Tryd.func29, Tryd.ntmps29
  go_upto_region 1 with fail
  refine wp_region_lit ?_
  refine fl_start ?_
  generalize ha : Act.mk _ _ = a0
  have hn : a0.tmps.size = 19 := by rw [← ha]; kernel_rfl

  refine g_w hn (w2 := W.alloc (.map #[] 0)) (v := .map (some W.heap.size)) (fun _ => by unfold execOp; dsimp only; rw [Option.map_none, Sem.run_bind, run_mk]; rfl) ?_
  have hm1 := dk_new W.heap.size (tgN tg0 W.heap.size (k2, -1)) k2 W (Nat.le_refl _) (tgN_at _ _ _)
  have hb1 := b0 W (.map #[] 0)
  generalize W.alloc (.map #[] 0) = w1 at hm1 hb1 ⊢
  have htg : ∀ x, x < W.heap.size → tgN tg0 W.heap.size (k2, -1) x = tg0 x := fun x hx => tgN_ne _ _ (by omega)
  generalize tgN tg0 W.heap.size (k2, -1) = tg1 at hm1 htg
  generalize hd2 : W.heap.size = d2 at hm1 ⊢
  have hm1' : DkR W.heap.size tg1 k2 w1 d2 (fun _ => none) (fun _ => none) := by
    rw [hd2]
    exact hm1
  clear hm1
  repeat first | refine g_mv hn ?_ | refine g_as hn ?_ | refine g_fd hn ?_ | refine g_ld hn ?_ | refine g_nc hn ?_ | refine g_nt hn ?_ | refine g_an hn ?_ | refine g_or hn ?_ | refine g_ln hn ?_ | refine g_ex hn ?_ | refine g_neq2 hn ?_ | refine g_neq hn ?_ | refine g_eql2 hn ?_ | refine g_eql hn ?_ | refine g_leq2 hn ?_ | refine g_leq hn ?_ | refine g_lss2 hn ?_ | refine g_lss hn ?_ | refine g_gtr2 hn ?_ | refine g_gtr hn ?_ | refine g_geq2 hn ?_ | refine g_geq hn ?_ | refine g_b0 hn ?_ | refine g_bn hn ?_ | refine g_bc hn ?_ | refine g_cv hn ?_ | refine g_ac hn ?_ | refine g_mc hn ?_
  refine fl_end ?_
  clear hn
  subst ha
  dsimp only [fr, cnd, Act.put, cond_true]
  simp only [List.setIfInBounds_toArray, List.set_cons_zero, List.set_cons_succ]
  have hbd : w1.heap[d]? = some (.map es clock) := (hb1.block d hdl).trans HB.out
  go_upto_region 2 with fail
  refine wp_region_lit ?_
  refine fl_start ?_
  generalize ha : Act.mk _ _ = a0
  have hn : a0.tmps.size = 19 := by rw [← ha]; kernel_rfl
  have h0 : (fr a0 []).eval (.tmp 0) = .map (some d) := by rw [← ha]; kernel_rfl
  refine fl_know hn rfl h0 ?_
  clear h0
  refine g_mv hn ?_
  refine g_w hn (w2 := w1.alloc (.mapIter (some d) clock #[] clock)) (v := .pointer (some ⟨w1.heap.size, 0, none⟩)) (fun hk => by unfold execOp; dsimp only; rw [lk_at hk (i := 7) rfl (fun _ => rfl) rfl, Sem.run_bind, run_range_map w1 41 _ _ d es clock mUnd hbd]; rfl) ?_
  have hit := heap_alloc_new w1 (.mapIter (some d) clock #[] clock)
  have hb2 := b0 w1 (.mapIter (some d) clock #[] clock)
  generalize w1.alloc (.mapIter (some d) clock #[] clock) = w2 at hit hb2 ⊢
  generalize hr : w1.heap.size = r at hit ⊢
  refine fl_end ?_
  clear hn
  subst ha
  dsimp only [fr, cnd, Act.put, cond_true]
  simp only [List.setIfInBounds_toArray, List.set_cons_zero, List.set_cons_succ]
  have HI : Hid (CopI tg0 k2 D W r d d2 es clock w2 [] #[] clock tg1 (fun _ => none)) := by
    refine ⟨hit, Nat.le_refl _, fun e _ h => by simp at h, ?_, htg, bt hb1 hb2, by rw [← hr]; exact hb1.size⟩
    rw [someD_nil]
    exact hm1'.below hb2
  clear hit hb1 hb2 hm1' htg hbd
  clear hdl
  go_wp2_with fail
  go_loopw [4, 5] (fun _ _ wr => ∃ ks seen c0 tg2 f2, Hid (CopI tg0 k2 D W r d d2 es clock wr ks seen c0 tg2 f2)) (fun _ _ wr => (leftOf es (seenAt wr r)).size)
  case atStart => exact ⟨_, _, _, _, _, HI⟩
  case round =>
    clear HI
    obtain ⟨ks, seen, c0, tg2, f2, hI⟩ := hrel
    have hbd : wr.heap[d]? = some (.map es clock) := (hI.out.bel.block d HD.out.mp.lt).trans HB.out
    rcases run_next_at (P := Tryd.prog) wr 0 r d clock c0 seen es clock hI.out.it hbd HS1.out hI.out.cle with ⟨hz, hrun⟩ | ⟨e, hel, w3, ho3, hit3, hrun⟩
    · have R : Hid (CopR tg0 k2 D W (.map (some d2)) wr) := cop_end (f := f) hI.out hz HD.out.no HK2.out
      clear hI hz hbd
      go_upto_region 3 with fail
      refine wp_region_lit ?_
      refine fl_start ?_
      generalize ha : Act.mk _ _ = a0
      have hn : a0.tmps.size = 19 := by rw [← ha]; kernel_rfl
      have h8 : (fr a0 []).eval (.tmp 8) = .pointer (some ⟨r, 0, none⟩) := by rw [← ha]; kernel_rfl
      refine fl_know hn rfl h8 ?_
      clear h8
      refine g_o1 hn (i := 8) (vi := .pointer (some ⟨r, 0, none⟩)) (v := .tuple #[.bool false]) (fun ρ h _ => by unfold execOp; dsimp only; rw [h, Sem.run_bind, next_ty _ _ 0, hrun]; rfl) ?_
      repeat first | refine g_mv hn ?_ | refine g_as hn ?_ | refine g_fd hn ?_ | refine g_ld hn ?_ | refine g_nc hn ?_ | refine g_nt hn ?_ | refine g_an hn ?_ | refine g_or hn ?_ | refine g_ln hn ?_ | refine g_ex hn ?_ | refine g_neq2 hn ?_ | refine g_neq hn ?_ | refine g_eql2 hn ?_ | refine g_eql hn ?_ | refine g_leq2 hn ?_ | refine g_leq hn ?_ | refine g_lss2 hn ?_ | refine g_lss hn ?_ | refine g_gtr2 hn ?_ | refine g_gtr hn ?_ | refine g_geq2 hn ?_ | refine g_geq hn ?_ | refine g_b0 hn ?_ | refine g_bn hn ?_ | refine g_bc hn ?_ | refine g_cv hn ?_ | refine g_ac hn ?_ | refine g_mc hn ?_
      refine fl_end ?_
      clear hn
      subst ha
      dsimp only [fr, cnd, Act.put, cond_true]
      simp only [List.setIfInBounds_toArray, List.set_cons_zero, List.set_cons_succ]
      clear hrun
      go_wp2_with fail
      go_ret
      exact ⟨_, rfl, R.out⟩
    · have he := (mem_left hel).1
      obtain ⟨n, hkey, hfn⟩ := HK1.out e he
      obtain ⟨c, g, hval, _, _, hDn, hmp, hl⟩ := HD.out.yes n e.val hfn
      have hen := run_entry_at (P := Tryd.prog) w3 r d clock seen es clock e hit3 ((ho3.block d (fun e => by rw [e, hI.out.it] at hbd; cases hbd)).trans hbd) he HS2.out
      rw [hkey, hval] at hrun hen
      have hlef := Lib.hid (left_shrinks es seen e hel)
      have hse := Lib.hid (seenAt_is hI.out.it)
      have hrd : r ≠ d2 := by
        intro e
        obtain ⟨_, _, hm, _⟩ := hI.out.dk.mp
        rw [← e, hI.out.it] at hm
        cases hm
      have hdk3 := hI.out.dk.maps (mapiter_maps hI.out.it ho3)
      have hmp3 : MpI w3 c (mpV g) := by
        have h1 := hmp.keep hI.out.bel hmp.lt
        obtain ⟨es2, cl2, hm, hr⟩ := h1
        exact ⟨es2, cl2, (mapiter_maps hI.out.it ho3 c es2 cl2 hm).trans hm, hr⟩
      have hbel3 := hI.out.bel.trans (ho3.below hI.out.rlo)
      go_upto_region 3 with fail
      refine wp_region_lit ?_
      refine fl_start ?_
      generalize ha : Act.mk _ _ = a0
      have hn : a0.tmps.size = 19 := by rw [← ha]; kernel_rfl
      have h8 : (fr a0 []).eval (.tmp 8) = .pointer (some ⟨r, 0, none⟩) := by rw [← ha]; kernel_rfl
      refine fl_know hn rfl h8 ?_
      clear h8
      refine g_w hn (w2 := w3) (v := .tuple #[.bool true, .int .i64 n, .map (some c)]) (fun hk => by unfold execOp; dsimp only; rw [lk_at hk (i := 8) rfl (fun _ => rfl) rfl, Sem.run_bind, next_ty _ _ 0, hrun]; rfl) ?_
      repeat first | refine g_mv hn ?_ | refine g_as hn ?_ | refine g_fd hn ?_ | refine g_ld hn ?_ | refine g_nc hn ?_ | refine g_nt hn ?_ | refine g_an hn ?_ | refine g_or hn ?_ | refine g_ln hn ?_ | refine g_ex hn ?_ | refine g_neq2 hn ?_ | refine g_neq hn ?_ | refine g_eql2 hn ?_ | refine g_eql hn ?_ | refine g_leq2 hn ?_ | refine g_leq hn ?_ | refine g_lss2 hn ?_ | refine g_lss hn ?_ | refine g_gtr2 hn ?_ | refine g_gtr hn ?_ | refine g_geq2 hn ?_ | refine g_geq hn ?_ | refine g_b0 hn ?_ | refine g_bn hn ?_ | refine g_bc hn ?_ | refine g_cv hn ?_ | refine g_ac hn ?_ | refine g_mc hn ?_
      refine fl_end ?_
      clear hn
      subst ha
      dsimp only [fr, cnd, Act.put, cond_true]
      simp only [List.setIfInBounds_toArray, List.set_cons_zero, List.set_cons_succ]
      clear hrun hbd ho3
      go_upto_region 4 with fail
      refine wp_region_lit ?_
      refine fl_start ?_
      generalize ha : Act.mk _ _ = a0
      have hn : a0.tmps.size = 19 := by rw [← ha]; kernel_rfl
      have h8 : (fr a0 []).eval (.tmp 8) = .pointer (some ⟨r, 0, none⟩) := by rw [← ha]; kernel_rfl
      refine fl_know hn rfl h8 ?_
      clear h8
      refine g_o1 hn (i := 8) (vi := .pointer (some ⟨r, 0, none⟩)) (v := .tuple #[.int .i64 n, .map (some c)]) (fun ρ h _ => by unfold execOp; dsimp only; rw [h, Sem.run_bind, hen]; rfl) ?_
      repeat first | refine g_mv hn ?_ | refine g_as hn ?_ | refine g_fd hn ?_ | refine g_ld hn ?_ | refine g_nc hn ?_ | refine g_nt hn ?_ | refine g_an hn ?_ | refine g_or hn ?_ | refine g_ln hn ?_ | refine g_ex hn ?_ | refine g_neq2 hn ?_ | refine g_neq hn ?_ | refine g_eql2 hn ?_ | refine g_eql hn ?_ | refine g_leq2 hn ?_ | refine g_leq hn ?_ | refine g_lss2 hn ?_ | refine g_lss hn ?_ | refine g_gtr2 hn ?_ | refine g_gtr hn ?_ | refine g_geq2 hn ?_ | refine g_geq hn ?_ | refine g_b0 hn ?_ | refine g_bn hn ?_ | refine g_bc hn ?_ | refine g_cv hn ?_ | refine g_ac hn ?_ | refine g_mc hn ?_
      refine fl_end ?_
      clear hn
      subst ha
      dsimp only [fr, cnd, Act.put, cond_true]
      simp only [List.setIfInBounds_toArray, List.set_cons_zero, List.set_cons_succ]
      clear hen
      go_upto_region 5 with fail
      refine wp_region_lit ?_
      refine fl_start ?_
      generalize ha : Act.mk _ _ = a0
      have hn : a0.tmps.size = 19 := by rw [← ha]; kernel_rfl
      have h3 : (fr a0 []).eval (.tmp 3) = .map (some d2) := by rw [← ha]; kernel_rfl
      refine fl_know hn rfl h3 ?_
      clear h3
      have h4 : (fr a0 [(3, true, .map (some d2))]).eval (.tmp 4) = .int .i64 n := by rw [← ha]; kernel_rfl
      refine fl_know hn rfl h4 ?_
      clear h4
      have h5 : (fr a0 [(4, true, .int .i64 n), (3, true, .map (some d2))]).eval (.tmp 5) = .map (some c) := by rw [← ha]; kernel_rfl
      refine fl_know hn rfl h5 ?_
      clear h5
      repeat first | refine g_mv hn ?_ | refine g_as hn ?_ | refine g_fd hn ?_ | refine g_ld hn ?_ | refine g_nc hn ?_ | refine g_nt hn ?_ | refine g_an hn ?_ | refine g_or hn ?_ | refine g_ln hn ?_ | refine g_ex hn ?_ | refine g_neq2 hn ?_ | refine g_neq hn ?_ | refine g_eql2 hn ?_ | refine g_eql hn ?_ | refine g_leq2 hn ?_ | refine g_leq hn ?_ | refine g_lss2 hn ?_ | refine g_lss hn ?_ | refine g_gtr2 hn ?_ | refine g_gtr hn ?_ | refine g_geq2 hn ?_ | refine g_geq hn ?_ | refine g_b0 hn ?_ | refine g_bn hn ?_ | refine g_bc hn ?_ | refine g_cv hn ?_ | refine g_ac hn ?_ | refine g_mc hn ?_
      refine g_c1x enters_Clone hn (clone_mpi c (mpV g) w3 hmp3) ?_
      rintro v w4 ⟨rfl, hm4, hb4, hs4⟩
      generalize hc4 : w3.heap.size = c4 at hm4 ⊢
      have htn : ∀ x, x < w3.heap.size → tgN tg2 c4 (k2 + 2, n) x = tg2 x := fun x hx => tgN_ne _ _ (by omega)
      have hdk4 := hdk3.keep (W' := w4) htn fun x hx _ => hb4.block x hx
      have hit4 := (hb4.block r (Array.getElem?_eq_some_iff.1 hit3).1).trans hit3
      obtain ⟨w5, hr5, ho5, hm5⟩ := run_putI (P := Tryd.prog) mUnd iUnd hdk4.mp n (.map (some c4))
      refine g_mu hr5 ?_
      refine fl_end ?_
      clear hn
      subst ha
      dsimp only [fr, cnd, Act.put, cond_true]
      simp only [List.setIfInBounds_toArray, List.set_cons_zero, List.set_cons_succ]
      have hdk5 := hdk4.more ho5 hm5 hm4 (tgN_at _ _ _) (by rw [← hc4]; exact hbel3.size) hDn hl
      have hit5 := (ho5.block r hrd).trans hit4
      have hI5 : Hid (CopI tg0 k2 D W r d d2 es clock w5 (n :: ks) (seen.push e.born) clock (tgN tg2 c4 (k2 + 2, n)) (upd f2 n (some (.map (some c4))))) := by
        refine ⟨hit5, Nat.le_refl _, fun e2 he2 hse2 => ?_, hdk5, fun x hx => (htn x (Nat.lt_of_lt_of_le hx hbel3.size)).trans (hI.out.tg x hx), (hbel3.trans (hb4.mono hbel3.size)).trans (ho5.below hdk4.lo), hI.out.rlo⟩
        rw [contains_push, Bool.or_eq_true, beq_iff_eq] at hse2
        rcases hse2 with h1 | h1
        · obtain ⟨n2, h2, h3⟩ := hI.out.kd e2 he2 h1
          exact ⟨n2, List.mem_cons_of_mem _ h2, h3⟩
        · have h2 := find_born e2 es.toList HS2.out he2
          have h3 := find_born e es.toList HS2.out he
          rw [h1] at h2
          have h4 : e2 = e := by
            rw [h3] at h2
            injection h2 with h2
            exact h2.symm
          rw [h4]
          exact ⟨n, List.mem_cons_self .., hkey⟩
      have hse5 := Lib.hid (seenAt_is hit5)
      clear hdk3 hmp3 hm4 hdk4 hit4 hr5 hm5 hdk5 hit5 hI hkey hfn hval hmp hb4 hit3
      go_wp2_with fail
      go_roundw
      case rel => exact ⟨_, _, _, _, _, hI5⟩
      case measure =>
        rw [hse5.out, hse.out]
        exact hlef.out
end Go.Proofs.YtjbmhbnlanbbkaaDoor
