/-
  WHAT IS PROVED: the law's Do, of a write, a flush, a removal. Conditions: those typed in each theorem.
-/
import Derived.Test.YtjbmhbnlanbbkaaDoorSbA
import Derived.Test.YtjbmhbnlanbbkaaDoorGQ6
import Derived.Test.YtjbmhbnlanbbkaaDoorGQ9
namespace Go.Proofs.YtjbmhbnlanbbkaaDoor
open Go.RowKit

theorem en_spinney_slate_Slate_Write : ∀ args w, (callFunc 11 args).run Tryd.prog w = .ok (.enter 11 args) w := enters_of Tryd.func11 (by kernel_rfl) rfl
theorem en_spinney_slate_Slate_Flush : ∀ args w, (callFunc 12 args).run Tryd.prog w = .ok (.enter 12 args) w := enters_of Tryd.func12 (by kernel_rfl) rfl
theorem en_spinney_slate_Slate_Remove : ∀ args w, (callFunc 17 args).run Tryd.prog w = .ok (.enter 17 args) w := enters_of Tryd.func17 (by kernel_rfl) rfl
theorem en_spinney_spinneyref09_Put : ∀ args w, (callFunc 15 args).run Tryd.prog w = .ok (.enter 15 args) w := enters_of Tryd.func15 (by kernel_rfl) rfl
theorem en_spinney_spinneyref09_Flush : ∀ args w, (callFunc 16 args).run Tryd.prog w = .ok (.enter 16 args) w := enters_of Tryd.func16 (by kernel_rfl) rfl
theorem en_spinney_spinneyref09_Remove : ∀ args w, (callFunc 18 args).run Tryd.prog w = .ok (.enter 18 args) w := enters_of Tryd.func18 (by kernel_rfl) rfl

theorem stk_blkB {B k : Nat} {W W' : World} {cs : Array Value} {t : TypeId} (h : StK B W W') (hX : Blk W k cs t) (h1 : t ≠ 44) (h2 : t ≠ 61) : Blk W' k cs t := (h.cel k cs t (0, 0) hX h1 h2).trans hX
theorem results_tctt {P : Program} {fn : Func} {t1 p u v : Tmp} {ty : TypeId} (h : fn.results = #[.tmp t1, .cell p ty, .tmp u, .tmp v]) (tmps : Array Value) (w : World) (g : Nat) (t : TypeId) (cs : Array Value) (fr : Nat × Nat) (d : TypeDesc)
    (hp : tmps.getD p undef = .pointer (some ⟨g, 0, none⟩)) (hg : w.heap[g]? = some (.cells cs t fr))
    (hu : P.underlying ty = some d) (hd : (match d with | .struct _ | .array _ _ => true | _ => false) = true) (hi : (P.info? ty).map (·.size) = some cs.size) :
    (results fn tmps).run P w = .ok (.tuple #[tmps.getD t1 undef, .agg cs, tmps.getD u undef, tmps.getD v undef]) w := by
  have hp' : tmps[p]?.getD undef = .pointer (some ⟨g, 0, none⟩) := by simpa using hp
  simp [results, h, hp', asAddr, run_loadVar_row w g t ty cs fr d hg hu hd hi]
theorem st_rowS {w : World} {b : Nat} {cs c : Array Value} (hX : Blk w b cs 35) (hs : cs.size = c.size) (h4 : c.size = 4) (h1 : c.all (·.oneCell') = true) : (Instr.storeAt 35 (.pointer (some ⟨b, 0, none⟩)) (.agg c)).run Tryd.prog w = .ok () (w.setRow b c) := by
  have hi : (Tryd.prog.info? 35).map (·.size) = some c.size := by rw [h4]; kernel_rfl
  simp only [Instr.storeAt, Instr.sureAddr, Sem.run_bind, Sem.run_pure, Result.andThen_ok]
  exact run_storeVar_row w b 35 35 cs c hX hi hs h1
theorem rsS_one (A : Option Addr) (n c : Nat) (A2 : Option Addr) (n2 c2 : Nat) : (rsS A n c A2 n2 c2).all (·.oneCell') = true := by simp [Value.oneCell']
theorem StK.newB {B k : Nat} {W w2 w4 : World} (h : StK B W w2) (ho : Only1 k w2 w4) (hk : W.heap.size ≤ k) (hBW : B ≤ W.heap.size) : StK B W w4 :=
  ⟨h.bel.trans (ho.below (by omega)), fun x cs t fr hx h1 h2 => (ho.block x (fun e => by have := (Array.getElem?_eq_some_iff.1 hx).1; omega)).trans (h.cel x cs t fr hx h1 h2)⟩
theorem SlR.onlyB {B s k : Nat} {W W' : World} {M : Sl} {cs : Array Value} {t : TypeId} (h : SlR B W s M) (hX : Blk W k cs t) (h1 : t ≠ 44) (h2 : t ≠ 61) (ho : Only1 k W W') : SlR B W' s M := by
  obtain ⟨tg, d1, d2, f1, f2, A, n, c, b1, b2, b3, b4, b5, b6, b7, b8, b9⟩ := h
  refine ⟨tg, d1, d2, f1, f2, A, n, c, b1.only ho (fun e => ?_), b2, b3.only hX ho, b4.only hX ho, b5.only hX ho (fun e => h2 e.symm), b6, b7, b8, by rw [ho.size]; exact b9⟩
  subst e
  have h3 := b1.symm.trans hX
  injection h3 with h3
  injection h3 with _ h3
  exact h1 h3.symm
/-- What a step of the slate's does to its budget. -/
structure StpM (M M' : Sl) (code : Int) : Prop where
  sp : M.spent = true → code = 7 ∧ M'.dead = true
  ok : M.spent = false → code = 0 ∧ M'.dead = M.dead
  armed : M'.armed = M.armed
  bud : M'.budget = stB M.armed M.budget
  pend : M'.pend.length ≤ M.pend.length + 1
theorem stB_spent {ar : Bool} {bu : Int} (h : spentB ar bu = true) : stB ar bu = bu := by
  unfold spentB at h
  rw [Bool.and_eq_true, beq_iff_eq] at h
  unfold stB
  rw [if_neg (by simp [h.2])]
theorem notP_len (p : Pw → Bool) (l : List Pw) : (notP p l).length ≤ l.length := by
  unfold notP
  exact List.length_filter_le _ _
theorem stp_wr (M : Sl) (f b : Int) (l : List UInt8) (h : okW f b l = true) : StpM M (wrM M f b l) (wrCode M f b l) := by
  unfold wrM wrCode
  rw [h]
  cases hs : M.spent with
  | true => exact ⟨fun _ => ⟨rfl, rfl⟩, (fun e => by rw [hs] at e; cases e), rfl, (stB_spent hs).symm, Nat.le_succ _⟩
  | false => exact ⟨(fun e => by rw [hs] at e; cases e), fun _ => ⟨rfl, rfl⟩, rfl, rfl, by show (M.pend ++ [_]).length ≤ _; rw [List.length_append]; exact Nat.le_refl _⟩
theorem stp_fl (M : Sl) (f : Int) (h : fileB f = true) : StpM M (flM M f) (rmCode M f) := by
  unfold flM rmCode
  rw [h]
  cases hs : M.spent with
  | true => exact ⟨fun _ => ⟨rfl, by show (spentB M.armed M.budget || M.dead) = true; rw [show spentB M.armed M.budget = true from hs]; rfl⟩, (fun e => by rw [hs] at e; cases e), rfl, rfl, Nat.le_succ _⟩
  | false => exact ⟨(fun e => by rw [hs] at e; cases e), fun _ => ⟨rfl, by show (spentB M.armed M.budget || M.dead) = M.dead; rw [show spentB M.armed M.budget = false from hs]; rfl⟩, rfl, rfl, Nat.le_trans (notP_len _ _) (Nat.le_succ _)⟩
theorem stp_rm (M : Sl) (f : Int) (h : fileB f = true) : StpM M (rmM M f) (rmCode M f) := by
  unfold rmM rmCode
  rw [h]
  cases hs : M.spent with
  | true => exact ⟨fun _ => ⟨rfl, by show (spentB M.armed M.budget || M.dead) = true; rw [show spentB M.armed M.budget = true from hs]; rfl⟩, (fun e => by rw [hs] at e; cases e), rfl, rfl, Nat.le_succ _⟩
  | false => exact ⟨(fun e => by rw [hs] at e; cases e), fun _ => ⟨rfl, by show (spentB M.armed M.budget || M.dead) = M.dead; rw [show spentB M.armed M.budget = false from hs]; rfl⟩, rfl, rfl, Nat.le_trans (notP_len _ _) (Nat.le_succ _)⟩
def DoBR (B s : Nat) (M : Sl) (w : World) (e : Ending) (w' : World) : Prop := ∃ (M' : Sl) (A : Option Addr) (n c : Nat) (A2 : Option Addr) (n2 c2 : Nat) (code k2 : Int), e = .returned (.tuple #[.pointer (some ⟨s, 0, none⟩), .agg (rsS A n c A2 n2 c2), .int .i64 code, .int .i64 k2]) ∧ SlR B w' s M' ∧ StK B w w' ∧ StpM M M' code
theorem placeB_file {f b : Int} (h : placeB f b = true) : fileB f = true ∧ placeB f 0 = true := by
  unfold placeB at h ⊢
  rw [Bool.and_eq_true, Bool.and_eq_true] at h
  exact ⟨h.1.1, by rw [h.1.1]; rfl⟩
set_option maxRecDepth 100000 in
set_option maxHeartbeats 4000000 in
theorem doB_kind1 {C : Nat} (S : Addr) (B s : Nat) (M : Sl) (x : Ac) (W : World) (hR : SlR B W s M) (hE : LaidE S W) (hg : 0 < B) (hx : x.rd C W) (hC : C ≤ B) (hk : x.k = 1) (hp : placeB x.f x.b = true) (hn64 : x.n1 ≤ 64) (hpl : M.pend.length ≤ 1000000) : Calls Tryd.prog 8 #[.pointer (some ⟨s, 0, none⟩), .agg rs0, .agg x.cells] W (DoBR B s M W) := by
  obtain ⟨hpf, hp0⟩ := placeB_file hp
  have hBW : B ≤ W.heap.size := by
    obtain ⟨_, _, _, _, _, _, _, _, _, _, _, _, _, _, _, _, h9⟩ := hR
    exact h9
  have hX0 := blk_new W rs0 35
  replace hX0 := hX0.alloc (.cells x.cells tAc)
  replace hX0 := hX0.alloc (.cells #[.slice none 0 0, .slice none 0 0, .int .i64 0, .bool false] 35)
  have hz1 : (W.alloc (.cells rs0 35)).heap.size = W.heap.size + 1 := by simp
  have hX1 := blk_new (W.alloc (.cells rs0 35)) x.cells tAc
  rw [hz1] at hX1
  replace hX1 := hX1.alloc (.cells #[.slice none 0 0, .slice none 0 0, .int .i64 0, .bool false] 35)
  have hz2 : ((W.alloc (.cells rs0 35)).alloc (.cells x.cells tAc)).heap.size = W.heap.size + 2 := by simp
  have hX2 := blk_new ((W.alloc (.cells rs0 35)).alloc (.cells x.cells tAc)) #[.slice none 0 0, .slice none 0 0, .int .i64 0, .bool false] 35
  rw [hz2] at hX2
  have hB := ba (ba (b0 W (.cells rs0 35)) (.cells x.cells tAc)) (.cells #[.slice none 0 0, .slice none 0 0, .int .i64 0, .bool false] 35)
  have hzz : (((W.alloc (.cells rs0 35)).alloc (.cells x.cells tAc)).alloc (.cells #[.slice none 0 0, .slice none 0 0, .int .i64 0, .bool false] 35)).heap.size = W.heap.size + 3 := by simp
  have hBel := hB
  go_enter Tryd.func8, Tryd.ntmps8
  go_upto_region 2 with fail
  generalize (((W.alloc (.cells rs0 35)).alloc (.cells x.cells tAc)).alloc (.cells #[.slice none 0 0, .slice none 0 0, .int .i64 0, .bool false] 35)) = W0 at hX0 hX1 hX2 hB hzz hBel ⊢
  (try simp only [hz1, hz2])
  clear hz1 hz2
  generalize hb : W.heap.size = b at hX0 hX1 hX2 hB hzz ⊢
  have hR0 := hR.below (by rw [hb]; exact hB)
  have hE0 := hE.keep (by rw [hb]; exact hB)
  have hx0 := hx.keep (C := B) ((by rw [hb]; exact hB : Below W.heap.size W W0).mono hBW) hC
  have hK0 : StK B W W0 := StK.of_below (by rw [hb]; exact hB) hBW
  clear hR hE hx hBel
  have af0 := afd0 W0 (b + 1)
  have l0 : (Instr.loadAt 3 (.pointer (some ⟨(b + 1), 0, none⟩))).run Tryd.prog W0 = .ok (.int .i64 x.k) W0 := load_int (hX1.cell 0)
  refine wp_region_lit ?_
  refine fl_start ?_
  generalize ha : Act.mk _ _ = a0
  have hn : a0.tmps.size = 109 := by rw [← ha]; kernel_rfl
  have h5 : (fr a0 []).eval (.tmp 5) = .pointer (some ⟨b + 1, 0, none⟩) := by rw [← ha]; kernel_rfl
  refine fl_know hn rfl h5 ?_
  clear h5
  refine g_fd hn ?_
  refine g_ld hn ?_
  refine fl_end ?_
  clear hn af0 l0
  subst ha
  dsimp only [fr, cnd, Act.put, cond_true]
  simp only [List.setIfInBounds_toArray, List.set_cons_zero, List.set_cons_succ]
  have e1 : (x.k == 1) = true := by rw [hk]; rfl
  have HK := Lib.hid hk
  clear hk
  go_upto_region 3 with fail
  refine wp_region_lit ?_
  refine fl_start ?_
  generalize ha : Act.mk _ _ = a0
  have hn : a0.tmps.size = 109 := by rw [← ha]; kernel_rfl
  have h13 : (fr a0 []).eval (.tmp 13) = .int .i64 x.k := by rw [← ha]; kernel_rfl
  refine fl_know hn rfl h13 ?_
  clear h13
  refine g_eql hn ?_
  refine g_as hn ?_
  refine fl_end ?_
  clear hn
  subst ha
  dsimp only [fr, cnd, Act.put, cond_true]
  simp only [List.setIfInBounds_toArray, List.set_cons_zero, List.set_cons_succ]
  simp only [e1]
  have cW := write_any S B s M x.f x.b x.A1 x.n1 x.c1 x.l W0 hR0 hE0 hg hx0.2.1 (hx0.1.more (by omega)) hpl (by omega)
  have af1 := afd1 W0 (b + 1)
  have l1 : (Instr.loadAt 3 (.pointer (some ⟨(b + 1), 1, none⟩))).run Tryd.prog W0 = .ok (.int .i64 x.f) W0 := load_int (hX1.cell 1)
  have af2 := afd2 W0 (b + 1)
  have l2 : (Instr.loadAt 3 (.pointer (some ⟨(b + 1), 2, none⟩))).run Tryd.prog W0 = .ok (.int .i64 x.b) W0 := load_int (hX1.cell 2)
  have af4 := afd4 W0 (b + 1)
  have l4 := lsl (t := 28) (.inl rfl) (hX1.cell 4)
  go_upto_region 4 with fail
  refine wp_region_lit ?_
  refine fl_start ?_
  generalize ha : Act.mk _ _ = a0
  have hn : a0.tmps.size = 109 := by rw [← ha]; kernel_rfl
  have h0 : (fr a0 []).eval (.tmp 0) = .pointer (some ⟨s, 0, none⟩) := by rw [← ha]; kernel_rfl
  refine fl_know hn rfl h0 ?_
  clear h0
  have h5 : (fr a0 [(0, true, .pointer (some ⟨s, 0, none⟩))]).eval (.tmp 5) = .pointer (some ⟨b + 1, 0, none⟩) := by rw [← ha]; kernel_rfl
  refine fl_know hn rfl h5 ?_
  clear h5
  refine g_mv hn ?_
  refine g_fd hn ?_
  refine g_ld hn ?_
  refine g_fd hn ?_
  refine g_ld hn ?_
  refine g_fd hn ?_
  refine g_ld hn ?_
  refine fl_callx (R := fun v w2 => v = .int .i64 (wrCode M x.f x.b x.l) ∧ SlR B w2 s (wrM M x.f x.b x.l) ∧ StK B W0 w2) hn rfl rfl rfl (fun hk => call4_is en_spinney_slate_Slate_Write _ _ _ _ _ _ _ _ _ _ _ (.pointer (some ⟨s, 0, none⟩)) (.int .i64 x.f) (.int .i64 x.b) (.slice x.A1 x.n1 x.c1) (lk_at hk (i := 16) rfl (fun _ => rfl) rfl) (lk_at hk (i := 18) rfl (fun _ => rfl) rfl) (lk_at hk (i := 20) rfl (fun _ => rfl) rfl) (lk_at hk (i := 22) rfl (fun _ => rfl) rfl) rfl) (cW.mono fun _ _ ⟨he, h1, h2⟩ => ⟨_, he, rfl, h1, h2⟩) ?_
  rintro v w2 ⟨rfl, hR2, hK2⟩
  refine g_as hn ?_
  refine fl_end ?_
  clear hn af1 l1 af2 l2 af4 l4 cW
  subst ha
  dsimp only [fr, cnd, Act.put, cond_true]
  simp only [List.setIfInBounds_toArray, List.set_cons_zero, List.set_cons_succ]
  have hM : StpM M (wrM M x.f x.b x.l) (wrCode M x.f x.b x.l) := stp_wr M x.f x.b x.l (by unfold okW; rw [hp]; simp [hx0.2.1, hn64])
  generalize wrM M x.f x.b x.l = M2 at hR2 hM
  generalize wrCode M x.f x.b x.l = code at hM ⊢
  have hX02 := stk_blkB hK2 hX0 (by decide) (by decide)
  have hX12 := stk_blkB hK2 hX1 (by decide) (by decide)
  have hX22 := stk_blkB hK2 hX2 (by decide) (by decide)
  have hx2 := hx0.keep hK2.bel hC
  have hB2 : B ≤ w2.heap.size := by have := hK2.bel.size; omega
  have la := rs_la hX02 rfl
  have cP := rPut_any (C := C) x.f x.b x.A1 x.n1 x.c1 x.l w2 hp hx2.2.1 hn64 hx2.1 (by omega)
  have af1 := afd1 w2 (b + 1)
  have l1 : (Instr.loadAt 3 (.pointer (some ⟨(b + 1), 1, none⟩))).run Tryd.prog w2 = .ok (.int .i64 x.f) w2 := load_int (hX12.cell 1)
  have af2 := afd2 w2 (b + 1)
  have l2 : (Instr.loadAt 3 (.pointer (some ⟨(b + 1), 2, none⟩))).run Tryd.prog w2 = .ok (.int .i64 x.b) w2 := load_int (hX12.cell 2)
  have af4 := afd4 w2 (b + 1)
  have l4 := lsl (t := 28) (.inl rfl) (hX12.cell 4)
  go_upto_region 5 with fail
  refine wp_region_lit ?_
  refine fl_start ?_
  generalize ha : Act.mk _ _ = a0
  have hn : a0.tmps.size = 109 := by rw [← ha]; kernel_rfl
  have h4 : (fr a0 []).eval (.tmp 4) = .pointer (some ⟨b, 0, none⟩) := by rw [← ha]; kernel_rfl
  refine fl_know hn rfl h4 ?_
  clear h4
  have h5 : (fr a0 [(4, true, .pointer (some ⟨b, 0, none⟩))]).eval (.tmp 5) = .pointer (some ⟨b + 1, 0, none⟩) := by rw [← ha]; kernel_rfl
  refine fl_know hn rfl h5 ?_
  clear h5
  refine g_ld hn ?_
  refine g_fd hn ?_
  refine g_ld hn ?_
  refine g_fd hn ?_
  refine g_ld hn ?_
  refine g_fd hn ?_
  refine g_ld hn ?_
  refine fl_callx (R := fun v w3 => ∃ (A : Option Addr) (n c : Nat) (A2 : Option Addr) (n2 c2 : Nat), v = .tuple #[.agg (rsS A n c A2 n2 c2), .int .i64 0] ∧ Below w2.heap.size w2 w3) hn rfl rfl rfl (fun hk => call4_is en_spinney_spinneyref09_Put _ _ _ _ _ _ _ _ _ _ _ (.agg rs0) (.int .i64 x.f) (.int .i64 x.b) (.slice x.A1 x.n1 x.c1) (lk_at hk (i := 25) rfl (fun _ => rfl) rfl) (lk_at hk (i := 27) rfl (fun _ => rfl) rfl) (lk_at hk (i := 29) rfl (fun _ => rfl) rfl) (lk_at hk (i := 31) rfl (fun _ => rfl) rfl) rfl) (cP.mono fun _ _ ⟨A, n, c, A2, n2, c2, he, hb⟩ => ⟨_, he, A, n, c, A2, n2, c2, rfl, hb⟩) ?_
  rintro v w3 ⟨A, n, c, A2, n2, c2, rfl, hb3⟩
  refine g_mv hn ?_
  refine g_ex hn ?_
  refine g_ex hn ?_
  refine g_str (hX02.keep hb3) ?_ (h1 := rsS_one _ _ _ _ _ _)
  intro w4 ho4 hX4
  refine g_as hn ?_
  refine fl_end ?_
  clear hn la af1 l1 af2 l2 af4 l4 cP
  subst ha
  dsimp only [fr, cnd, Act.put, cond_true]
  simp only [List.setIfInBounds_toArray, List.set_cons_zero, List.set_cons_succ]
  have hX24 := (hX22.keep hb3).only ho4 (by omega)
  have hR4 := (hR2.below hb3).onlyB (hX02.keep hb3) (by decide) (by decide) ho4
  have hK4 : StK B W w4 := ((hK0.trans hK2).trans (StK.of_below hb3 hB2)).newB ho4 (by omega) hBW
  clear hX02 hX12 hX22 hR2 hK2 hK0 hb3 ho4
  have l1 : ∀ W' : World, (fun W => Blk W b (rsS A n c A2 n2 c2) 35) W' → (Instr.loadAt 35 (.pointer (some ⟨b, 0, none⟩))).run Tryd.prog W' = .ok (.agg (rsS A n c A2 n2 c2)) W' := fun W' hW => rs_la hW rfl
  go_upto_region 21 with fail
  refine fh_start (S := (fun W => Blk W b (rsS A n c A2 n2 c2) 35)) (by kernel_rfl) (hX4) (fun hS => ?_)
  generalize ha : Act.mk _ _ = a0
  have hn : a0.tmps.size = 109 := by rw [← ha]; kernel_rfl
  have h0 : (fr a0 []).eval (.tmp 0) = .pointer (some ⟨s, 0, none⟩) := by rw [← ha]; kernel_rfl
  refine fh_know hn rfl h0 ?_
  clear h0
  have h4 : (fr a0 [(0, true, .pointer (some ⟨s, 0, none⟩))]).eval (.tmp 4) = .pointer (some ⟨b, 0, none⟩) := by rw [← ha]; kernel_rfl
  refine fh_know hn rfl h4 ?_
  clear h4
  have h7 : (fr a0 [(4, true, .pointer (some ⟨b, 0, none⟩)), (0, true, .pointer (some ⟨s, 0, none⟩))]).eval (.tmp 7) = .pointer (some ⟨b + 2, 0, none⟩) := by rw [← ha]; kernel_rfl
  refine fh_know hn rfl h7 ?_
  clear h7
  have h10 : (fr a0 [(7, true, .pointer (some ⟨b + 2, 0, none⟩)), (4, true, .pointer (some ⟨b, 0, none⟩)), (0, true, .pointer (some ⟨s, 0, none⟩))]).eval (.tmp 10) = .int .i64 code := by rw [← ha]; kernel_rfl
  refine fh_know hn rfl h10 ?_
  clear h10
  have h11 : (fr a0 [(10, true, .int .i64 code), (7, true, .pointer (some ⟨b + 2, 0, none⟩)), (4, true, .pointer (some ⟨b, 0, none⟩)), (0, true, .pointer (some ⟨s, 0, none⟩))]).eval (.tmp 11) = .int .i64 0 := by rw [← ha]; kernel_rfl
  refine fh_know hn rfl h11 ?_
  clear h11
  refine h_mv 0 hn hS ?_
  refine h_ld 1 hn hS ?_
  refine h_mv 2 hn hS ?_
  refine h_mv 3 hn hS ?_
  refine h_as 4 hn hS ?_
  have hX24d : Blk w4.drew (b + 2) #[.slice none 0 0, .slice none 0 0, .int .i64 0, .bool false] 35 := hX24
  have ho5 := only_row w4.drew (b + 2) (rsS A n c A2 n2 c2)
  have hX5 := hX24d.row (rsS A n c A2 n2 c2)
  have hS5 : (fun W => Blk W b (rsS A n c A2 n2 c2) 35) (w4.drew.setRow (b + 2) (rsS A n c A2 n2 c2)) := (show Blk w4.drew b (rsS A n c A2 n2 c2) 35 from hX4).only ho5 (by omega)
  refine h_st 5 (st_rowS (c := rsS A n c A2 n2 c2) hX24d rfl rfl (rsS_one _ _ _ _ _ _)) hS5 ?_
  refine h_as 6 hn hS5 ?_
  refine h_as 7 hn hS5 ?_
  refine fh_end (by kernel_rfl) ?_
  clear hn l1
  subst ha
  dsimp only [fr, cnd, Act.put, cond_true]
  simp only [List.setIfInBounds_toArray, List.set_cons_zero, List.set_cons_succ]
  have hR5 := hR4.drew.onlyB hX24d (by decide) (by decide) ho5
  have hK5 : StK B W (w4.drew.setRow (b + 2) (rsS A n c A2 n2 c2)) := hK4.drew.newB ho5 (by omega) hBW
  clear hX24 hX24d hR4 hK4 hX4 hS hS5 ho5
  generalize w4.drew.setRow (b + 2) (rsS A n c A2 n2 c2) = w9 at hX5 hR5 hK5 ⊢
  go_wp2_with fail
  refine bodyPost_ret (results_tctt Tryd.results8 _ _ (b + 2) 35 (rsS A n c A2 n2 c2) (0, 0) _ (by rfl) hX5 Tryd.underlying35 (by rfl) (by kernel_rfl)) rfl ?_
  exact ⟨M2, A, n, c, A2, n2, c2, code, 0, rfl, hR5, hK5, hM⟩
set_option maxRecDepth 100000 in
set_option maxHeartbeats 4000000 in
theorem doB_kind2 {C : Nat} (S : Addr) (B s : Nat) (M : Sl) (x : Ac) (W : World) (hR : SlR B W s M) (hE : LaidE S W) (hg : 0 < B) (hx : x.rd C W) (hC : C ≤ B) (hk : x.k = 2) (hp : placeB x.f x.b = true) (hn64 : x.n1 ≤ 64) (hpl : M.pend.length ≤ 1000000) : Calls Tryd.prog 8 #[.pointer (some ⟨s, 0, none⟩), .agg rs0, .agg x.cells] W (DoBR B s M W) := by
  obtain ⟨hpf, hp0⟩ := placeB_file hp
  have hBW : B ≤ W.heap.size := by
    obtain ⟨_, _, _, _, _, _, _, _, _, _, _, _, _, _, _, _, h9⟩ := hR
    exact h9
  have hX0 := blk_new W rs0 35
  replace hX0 := hX0.alloc (.cells x.cells tAc)
  replace hX0 := hX0.alloc (.cells #[.slice none 0 0, .slice none 0 0, .int .i64 0, .bool false] 35)
  have hz1 : (W.alloc (.cells rs0 35)).heap.size = W.heap.size + 1 := by simp
  have hX1 := blk_new (W.alloc (.cells rs0 35)) x.cells tAc
  rw [hz1] at hX1
  replace hX1 := hX1.alloc (.cells #[.slice none 0 0, .slice none 0 0, .int .i64 0, .bool false] 35)
  have hz2 : ((W.alloc (.cells rs0 35)).alloc (.cells x.cells tAc)).heap.size = W.heap.size + 2 := by simp
  have hX2 := blk_new ((W.alloc (.cells rs0 35)).alloc (.cells x.cells tAc)) #[.slice none 0 0, .slice none 0 0, .int .i64 0, .bool false] 35
  rw [hz2] at hX2
  have hB := ba (ba (b0 W (.cells rs0 35)) (.cells x.cells tAc)) (.cells #[.slice none 0 0, .slice none 0 0, .int .i64 0, .bool false] 35)
  have hzz : (((W.alloc (.cells rs0 35)).alloc (.cells x.cells tAc)).alloc (.cells #[.slice none 0 0, .slice none 0 0, .int .i64 0, .bool false] 35)).heap.size = W.heap.size + 3 := by simp
  have hBel := hB
  go_enter Tryd.func8, Tryd.ntmps8
  go_upto_region 2 with fail
  generalize (((W.alloc (.cells rs0 35)).alloc (.cells x.cells tAc)).alloc (.cells #[.slice none 0 0, .slice none 0 0, .int .i64 0, .bool false] 35)) = W0 at hX0 hX1 hX2 hB hzz hBel ⊢
  (try simp only [hz1, hz2])
  clear hz1 hz2
  generalize hb : W.heap.size = b at hX0 hX1 hX2 hB hzz ⊢
  have hR0 := hR.below (by rw [hb]; exact hB)
  have hE0 := hE.keep (by rw [hb]; exact hB)
  have hx0 := hx.keep (C := B) ((by rw [hb]; exact hB : Below W.heap.size W W0).mono hBW) hC
  have hK0 : StK B W W0 := StK.of_below (by rw [hb]; exact hB) hBW
  clear hR hE hx hBel
  have af0 := afd0 W0 (b + 1)
  have l0 : (Instr.loadAt 3 (.pointer (some ⟨(b + 1), 0, none⟩))).run Tryd.prog W0 = .ok (.int .i64 x.k) W0 := load_int (hX1.cell 0)
  refine wp_region_lit ?_
  refine fl_start ?_
  generalize ha : Act.mk _ _ = a0
  have hn : a0.tmps.size = 109 := by rw [← ha]; kernel_rfl
  have h5 : (fr a0 []).eval (.tmp 5) = .pointer (some ⟨b + 1, 0, none⟩) := by rw [← ha]; kernel_rfl
  refine fl_know hn rfl h5 ?_
  clear h5
  refine g_fd hn ?_
  refine g_ld hn ?_
  refine fl_end ?_
  clear hn af0 l0
  subst ha
  dsimp only [fr, cnd, Act.put, cond_true]
  simp only [List.setIfInBounds_toArray, List.set_cons_zero, List.set_cons_succ]
  have e1 : (x.k == 1) = false := by rw [hk]; rfl
  have e2 : (x.k == 2) = true := by rw [hk]; rfl
  have HK := Lib.hid hk
  clear hk
  go_upto_region 3 with fail
  refine wp_region_lit ?_
  refine fl_start ?_
  generalize ha : Act.mk _ _ = a0
  have hn : a0.tmps.size = 109 := by rw [← ha]; kernel_rfl
  have h13 : (fr a0 []).eval (.tmp 13) = .int .i64 x.k := by rw [← ha]; kernel_rfl
  refine fl_know hn rfl h13 ?_
  clear h13
  refine g_eql hn ?_
  refine g_as hn ?_
  refine fl_end ?_
  clear hn
  subst ha
  dsimp only [fr, cnd, Act.put, cond_true]
  simp only [List.setIfInBounds_toArray, List.set_cons_zero, List.set_cons_succ]
  simp only [e1]
  go_upto_region 6 with fail
  refine wp_region_lit ?_
  refine fl_start ?_
  generalize ha : Act.mk _ _ = a0
  have hn : a0.tmps.size = 109 := by rw [← ha]; kernel_rfl
  have h13 : (fr a0 []).eval (.tmp 13) = .int .i64 x.k := by rw [← ha]; kernel_rfl
  refine fl_know hn rfl h13 ?_
  clear h13
  refine g_eql hn ?_
  refine g_as hn ?_
  refine fl_end ?_
  clear hn
  subst ha
  dsimp only [fr, cnd, Act.put, cond_true]
  simp only [List.setIfInBounds_toArray, List.set_cons_zero, List.set_cons_succ]
  simp only [e2]
  have cW := flush_any S B s M x.f W0 hR0 hE0 hg
  have af1 := afd1 W0 (b + 1)
  have l1 : (Instr.loadAt 3 (.pointer (some ⟨(b + 1), 1, none⟩))).run Tryd.prog W0 = .ok (.int .i64 x.f) W0 := load_int (hX1.cell 1)
  go_upto_region 7 with fail
  refine wp_region_lit ?_
  refine fl_start ?_
  generalize ha : Act.mk _ _ = a0
  have hn : a0.tmps.size = 109 := by rw [← ha]; kernel_rfl
  have h0 : (fr a0 []).eval (.tmp 0) = .pointer (some ⟨s, 0, none⟩) := by rw [← ha]; kernel_rfl
  refine fl_know hn rfl h0 ?_
  clear h0
  have h5 : (fr a0 [(0, true, .pointer (some ⟨s, 0, none⟩))]).eval (.tmp 5) = .pointer (some ⟨b + 1, 0, none⟩) := by rw [← ha]; kernel_rfl
  refine fl_know hn rfl h5 ?_
  clear h5
  refine g_mv hn ?_
  refine g_fd hn ?_
  refine g_ld hn ?_
  refine fl_callx (R := fun v w2 => v = .int .i64 (rmCode M x.f) ∧ SlR B w2 s (flM M x.f) ∧ StK B W0 w2) hn rfl rfl rfl (fun hk => call2_is en_spinney_slate_Slate_Flush _ _ _ _ _ _ _ _ _ (.pointer (some ⟨s, 0, none⟩)) (.int .i64 x.f) (lk_at hk (i := 37) rfl (fun _ => rfl) rfl) (lk_at hk (i := 39) rfl (fun _ => rfl) rfl) rfl) (cW.mono fun _ _ ⟨he, h1, h2⟩ => ⟨_, he, rfl, h1, h2⟩) ?_
  rintro v w2 ⟨rfl, hR2, hK2⟩
  refine g_as hn ?_
  refine fl_end ?_
  clear hn af1 l1 cW
  subst ha
  dsimp only [fr, cnd, Act.put, cond_true]
  simp only [List.setIfInBounds_toArray, List.set_cons_zero, List.set_cons_succ]
  have hM : StpM M (flM M x.f) (rmCode M x.f) := stp_fl M x.f hpf
  generalize flM M x.f = M2 at hR2 hM
  generalize rmCode M x.f = code at hM ⊢
  have hX02 := stk_blkB hK2 hX0 (by decide) (by decide)
  have hX12 := stk_blkB hK2 hX1 (by decide) (by decide)
  have hX22 := stk_blkB hK2 hX2 (by decide) (by decide)
  have hB2 : B ≤ w2.heap.size := by have := hK2.bel.size; omega
  have la := rs_la hX02 rfl
  have cP := rFlush_any x.f w2 hp0
  have af1 := afd1 w2 (b + 1)
  have l1 : (Instr.loadAt 3 (.pointer (some ⟨(b + 1), 1, none⟩))).run Tryd.prog w2 = .ok (.int .i64 x.f) w2 := load_int (hX12.cell 1)
  go_upto_region 8 with fail
  refine wp_region_lit ?_
  refine fl_start ?_
  generalize ha : Act.mk _ _ = a0
  have hn : a0.tmps.size = 109 := by rw [← ha]; kernel_rfl
  have h4 : (fr a0 []).eval (.tmp 4) = .pointer (some ⟨b, 0, none⟩) := by rw [← ha]; kernel_rfl
  refine fl_know hn rfl h4 ?_
  clear h4
  have h5 : (fr a0 [(4, true, .pointer (some ⟨b, 0, none⟩))]).eval (.tmp 5) = .pointer (some ⟨b + 1, 0, none⟩) := by rw [← ha]; kernel_rfl
  refine fl_know hn rfl h5 ?_
  clear h5
  refine g_ld hn ?_
  refine g_fd hn ?_
  refine g_ld hn ?_
  refine fl_callx (R := fun v w3 => ∃ (A : Option Addr) (n c : Nat) (A2 : Option Addr) (n2 c2 : Nat), v = .tuple #[.agg (rsS A n c A2 n2 c2), .int .i64 0] ∧ Below w2.heap.size w2 w3) hn rfl rfl rfl (fun hk => call2_is en_spinney_spinneyref09_Flush _ _ _ _ _ _ _ _ _ (.agg rs0) (.int .i64 x.f) (lk_at hk (i := 42) rfl (fun _ => rfl) rfl) (lk_at hk (i := 44) rfl (fun _ => rfl) rfl) rfl) (cP.mono fun _ _ ⟨A, n, c, A2, n2, c2, he, hb⟩ => ⟨_, he, A, n, c, A2, n2, c2, rfl, hb⟩) ?_
  rintro v w3 ⟨A, n, c, A2, n2, c2, rfl, hb3⟩
  refine g_mv hn ?_
  refine g_ex hn ?_
  refine g_ex hn ?_
  refine g_str (hX02.keep hb3) ?_ (h1 := rsS_one _ _ _ _ _ _)
  intro w4 ho4 hX4
  refine g_as hn ?_
  refine fl_end ?_
  clear hn la af1 l1 cP
  subst ha
  dsimp only [fr, cnd, Act.put, cond_true]
  simp only [List.setIfInBounds_toArray, List.set_cons_zero, List.set_cons_succ]
  have hX24 := (hX22.keep hb3).only ho4 (by omega)
  have hR4 := (hR2.below hb3).onlyB (hX02.keep hb3) (by decide) (by decide) ho4
  have hK4 : StK B W w4 := ((hK0.trans hK2).trans (StK.of_below hb3 hB2)).newB ho4 (by omega) hBW
  clear hX02 hX12 hX22 hR2 hK2 hK0 hb3 ho4
  have l1 : ∀ W' : World, (fun W => Blk W b (rsS A n c A2 n2 c2) 35) W' → (Instr.loadAt 35 (.pointer (some ⟨b, 0, none⟩))).run Tryd.prog W' = .ok (.agg (rsS A n c A2 n2 c2)) W' := fun W' hW => rs_la hW rfl
  go_upto_region 21 with fail
  refine fh_start (S := (fun W => Blk W b (rsS A n c A2 n2 c2) 35)) (by kernel_rfl) (hX4) (fun hS => ?_)
  generalize ha : Act.mk _ _ = a0
  have hn : a0.tmps.size = 109 := by rw [← ha]; kernel_rfl
  have h0 : (fr a0 []).eval (.tmp 0) = .pointer (some ⟨s, 0, none⟩) := by rw [← ha]; kernel_rfl
  refine fh_know hn rfl h0 ?_
  clear h0
  have h4 : (fr a0 [(0, true, .pointer (some ⟨s, 0, none⟩))]).eval (.tmp 4) = .pointer (some ⟨b, 0, none⟩) := by rw [← ha]; kernel_rfl
  refine fh_know hn rfl h4 ?_
  clear h4
  have h7 : (fr a0 [(4, true, .pointer (some ⟨b, 0, none⟩)), (0, true, .pointer (some ⟨s, 0, none⟩))]).eval (.tmp 7) = .pointer (some ⟨b + 2, 0, none⟩) := by rw [← ha]; kernel_rfl
  refine fh_know hn rfl h7 ?_
  clear h7
  have h10 : (fr a0 [(7, true, .pointer (some ⟨b + 2, 0, none⟩)), (4, true, .pointer (some ⟨b, 0, none⟩)), (0, true, .pointer (some ⟨s, 0, none⟩))]).eval (.tmp 10) = .int .i64 code := by rw [← ha]; kernel_rfl
  refine fh_know hn rfl h10 ?_
  clear h10
  have h11 : (fr a0 [(10, true, .int .i64 code), (7, true, .pointer (some ⟨b + 2, 0, none⟩)), (4, true, .pointer (some ⟨b, 0, none⟩)), (0, true, .pointer (some ⟨s, 0, none⟩))]).eval (.tmp 11) = .int .i64 0 := by rw [← ha]; kernel_rfl
  refine fh_know hn rfl h11 ?_
  clear h11
  refine h_mv 0 hn hS ?_
  refine h_ld 1 hn hS ?_
  refine h_mv 2 hn hS ?_
  refine h_mv 3 hn hS ?_
  refine h_as 4 hn hS ?_
  have hX24d : Blk w4.drew (b + 2) #[.slice none 0 0, .slice none 0 0, .int .i64 0, .bool false] 35 := hX24
  have ho5 := only_row w4.drew (b + 2) (rsS A n c A2 n2 c2)
  have hX5 := hX24d.row (rsS A n c A2 n2 c2)
  have hS5 : (fun W => Blk W b (rsS A n c A2 n2 c2) 35) (w4.drew.setRow (b + 2) (rsS A n c A2 n2 c2)) := (show Blk w4.drew b (rsS A n c A2 n2 c2) 35 from hX4).only ho5 (by omega)
  refine h_st 5 (st_rowS (c := rsS A n c A2 n2 c2) hX24d rfl rfl (rsS_one _ _ _ _ _ _)) hS5 ?_
  refine h_as 6 hn hS5 ?_
  refine h_as 7 hn hS5 ?_
  refine fh_end (by kernel_rfl) ?_
  clear hn l1
  subst ha
  dsimp only [fr, cnd, Act.put, cond_true]
  simp only [List.setIfInBounds_toArray, List.set_cons_zero, List.set_cons_succ]
  have hR5 := hR4.drew.onlyB hX24d (by decide) (by decide) ho5
  have hK5 : StK B W (w4.drew.setRow (b + 2) (rsS A n c A2 n2 c2)) := hK4.drew.newB ho5 (by omega) hBW
  clear hX24 hX24d hR4 hK4 hX4 hS hS5 ho5
  generalize w4.drew.setRow (b + 2) (rsS A n c A2 n2 c2) = w9 at hX5 hR5 hK5 ⊢
  go_wp2_with fail
  refine bodyPost_ret (results_tctt Tryd.results8 _ _ (b + 2) 35 (rsS A n c A2 n2 c2) (0, 0) _ (by rfl) hX5 Tryd.underlying35 (by rfl) (by kernel_rfl)) rfl ?_
  exact ⟨M2, A, n, c, A2, n2, c2, code, 0, rfl, hR5, hK5, hM⟩
set_option maxRecDepth 100000 in
set_option maxHeartbeats 4000000 in
theorem doB_kind3 {C : Nat} (S : Addr) (B s : Nat) (M : Sl) (x : Ac) (W : World) (hR : SlR B W s M) (hE : LaidE S W) (hg : 0 < B) (hx : x.rd C W) (hC : C ≤ B) (hk : x.k = 3) (hp : placeB x.f x.b = true) (hn64 : x.n1 ≤ 64) (hpl : M.pend.length ≤ 1000000) : Calls Tryd.prog 8 #[.pointer (some ⟨s, 0, none⟩), .agg rs0, .agg x.cells] W (DoBR B s M W) := by
  obtain ⟨hpf, hp0⟩ := placeB_file hp
  have hBW : B ≤ W.heap.size := by
    obtain ⟨_, _, _, _, _, _, _, _, _, _, _, _, _, _, _, _, h9⟩ := hR
    exact h9
  have hX0 := blk_new W rs0 35
  replace hX0 := hX0.alloc (.cells x.cells tAc)
  replace hX0 := hX0.alloc (.cells #[.slice none 0 0, .slice none 0 0, .int .i64 0, .bool false] 35)
  have hz1 : (W.alloc (.cells rs0 35)).heap.size = W.heap.size + 1 := by simp
  have hX1 := blk_new (W.alloc (.cells rs0 35)) x.cells tAc
  rw [hz1] at hX1
  replace hX1 := hX1.alloc (.cells #[.slice none 0 0, .slice none 0 0, .int .i64 0, .bool false] 35)
  have hz2 : ((W.alloc (.cells rs0 35)).alloc (.cells x.cells tAc)).heap.size = W.heap.size + 2 := by simp
  have hX2 := blk_new ((W.alloc (.cells rs0 35)).alloc (.cells x.cells tAc)) #[.slice none 0 0, .slice none 0 0, .int .i64 0, .bool false] 35
  rw [hz2] at hX2
  have hB := ba (ba (b0 W (.cells rs0 35)) (.cells x.cells tAc)) (.cells #[.slice none 0 0, .slice none 0 0, .int .i64 0, .bool false] 35)
  have hzz : (((W.alloc (.cells rs0 35)).alloc (.cells x.cells tAc)).alloc (.cells #[.slice none 0 0, .slice none 0 0, .int .i64 0, .bool false] 35)).heap.size = W.heap.size + 3 := by simp
  have hBel := hB
  go_enter Tryd.func8, Tryd.ntmps8
  go_upto_region 2 with fail
  generalize (((W.alloc (.cells rs0 35)).alloc (.cells x.cells tAc)).alloc (.cells #[.slice none 0 0, .slice none 0 0, .int .i64 0, .bool false] 35)) = W0 at hX0 hX1 hX2 hB hzz hBel ⊢
  (try simp only [hz1, hz2])
  clear hz1 hz2
  generalize hb : W.heap.size = b at hX0 hX1 hX2 hB hzz ⊢
  have hR0 := hR.below (by rw [hb]; exact hB)
  have hE0 := hE.keep (by rw [hb]; exact hB)
  have hx0 := hx.keep (C := B) ((by rw [hb]; exact hB : Below W.heap.size W W0).mono hBW) hC
  have hK0 : StK B W W0 := StK.of_below (by rw [hb]; exact hB) hBW
  clear hR hE hx hBel
  have af0 := afd0 W0 (b + 1)
  have l0 : (Instr.loadAt 3 (.pointer (some ⟨(b + 1), 0, none⟩))).run Tryd.prog W0 = .ok (.int .i64 x.k) W0 := load_int (hX1.cell 0)
  refine wp_region_lit ?_
  refine fl_start ?_
  generalize ha : Act.mk _ _ = a0
  have hn : a0.tmps.size = 109 := by rw [← ha]; kernel_rfl
  have h5 : (fr a0 []).eval (.tmp 5) = .pointer (some ⟨b + 1, 0, none⟩) := by rw [← ha]; kernel_rfl
  refine fl_know hn rfl h5 ?_
  clear h5
  refine g_fd hn ?_
  refine g_ld hn ?_
  refine fl_end ?_
  clear hn af0 l0
  subst ha
  dsimp only [fr, cnd, Act.put, cond_true]
  simp only [List.setIfInBounds_toArray, List.set_cons_zero, List.set_cons_succ]
  have e1 : (x.k == 1) = false := by rw [hk]; rfl
  have e2 : (x.k == 2) = false := by rw [hk]; rfl
  have e3 : (x.k == 3) = true := by rw [hk]; rfl
  have HK := Lib.hid hk
  clear hk
  go_upto_region 3 with fail
  refine wp_region_lit ?_
  refine fl_start ?_
  generalize ha : Act.mk _ _ = a0
  have hn : a0.tmps.size = 109 := by rw [← ha]; kernel_rfl
  have h13 : (fr a0 []).eval (.tmp 13) = .int .i64 x.k := by rw [← ha]; kernel_rfl
  refine fl_know hn rfl h13 ?_
  clear h13
  refine g_eql hn ?_
  refine g_as hn ?_
  refine fl_end ?_
  clear hn
  subst ha
  dsimp only [fr, cnd, Act.put, cond_true]
  simp only [List.setIfInBounds_toArray, List.set_cons_zero, List.set_cons_succ]
  simp only [e1]
  go_upto_region 6 with fail
  refine wp_region_lit ?_
  refine fl_start ?_
  generalize ha : Act.mk _ _ = a0
  have hn : a0.tmps.size = 109 := by rw [← ha]; kernel_rfl
  have h13 : (fr a0 []).eval (.tmp 13) = .int .i64 x.k := by rw [← ha]; kernel_rfl
  refine fl_know hn rfl h13 ?_
  clear h13
  refine g_eql hn ?_
  refine g_as hn ?_
  refine fl_end ?_
  clear hn
  subst ha
  dsimp only [fr, cnd, Act.put, cond_true]
  simp only [List.setIfInBounds_toArray, List.set_cons_zero, List.set_cons_succ]
  simp only [e2]
  go_upto_region 9 with fail
  refine wp_region_lit ?_
  refine fl_start ?_
  generalize ha : Act.mk _ _ = a0
  have hn : a0.tmps.size = 109 := by rw [← ha]; kernel_rfl
  have h13 : (fr a0 []).eval (.tmp 13) = .int .i64 x.k := by rw [← ha]; kernel_rfl
  refine fl_know hn rfl h13 ?_
  clear h13
  refine g_eql hn ?_
  refine g_as hn ?_
  refine fl_end ?_
  clear hn
  subst ha
  dsimp only [fr, cnd, Act.put, cond_true]
  simp only [List.setIfInBounds_toArray, List.set_cons_zero, List.set_cons_succ]
  simp only [e3]
  have cW := remove_any S B s M x.f W0 hR0 hE0 hg
  have af1 := afd1 W0 (b + 1)
  have l1 : (Instr.loadAt 3 (.pointer (some ⟨(b + 1), 1, none⟩))).run Tryd.prog W0 = .ok (.int .i64 x.f) W0 := load_int (hX1.cell 1)
  go_upto_region 10 with fail
  refine wp_region_lit ?_
  refine fl_start ?_
  generalize ha : Act.mk _ _ = a0
  have hn : a0.tmps.size = 109 := by rw [← ha]; kernel_rfl
  have h0 : (fr a0 []).eval (.tmp 0) = .pointer (some ⟨s, 0, none⟩) := by rw [← ha]; kernel_rfl
  refine fl_know hn rfl h0 ?_
  clear h0
  have h5 : (fr a0 [(0, true, .pointer (some ⟨s, 0, none⟩))]).eval (.tmp 5) = .pointer (some ⟨b + 1, 0, none⟩) := by rw [← ha]; kernel_rfl
  refine fl_know hn rfl h5 ?_
  clear h5
  refine g_mv hn ?_
  refine g_fd hn ?_
  refine g_ld hn ?_
  refine fl_callx (R := fun v w2 => v = .int .i64 (rmCode M x.f) ∧ SlR B w2 s (rmM M x.f) ∧ StK B W0 w2) hn rfl rfl rfl (fun hk => call2_is en_spinney_slate_Slate_Remove _ _ _ _ _ _ _ _ _ (.pointer (some ⟨s, 0, none⟩)) (.int .i64 x.f) (lk_at hk (i := 50) rfl (fun _ => rfl) rfl) (lk_at hk (i := 52) rfl (fun _ => rfl) rfl) rfl) (cW.mono fun _ _ ⟨he, h1, h2⟩ => ⟨_, he, rfl, h1, h2⟩) ?_
  rintro v w2 ⟨rfl, hR2, hK2⟩
  refine g_as hn ?_
  refine fl_end ?_
  clear hn af1 l1 cW
  subst ha
  dsimp only [fr, cnd, Act.put, cond_true]
  simp only [List.setIfInBounds_toArray, List.set_cons_zero, List.set_cons_succ]
  have hM : StpM M (rmM M x.f) (rmCode M x.f) := stp_rm M x.f hpf
  generalize rmM M x.f = M2 at hR2 hM
  generalize rmCode M x.f = code at hM ⊢
  have hX02 := stk_blkB hK2 hX0 (by decide) (by decide)
  have hX12 := stk_blkB hK2 hX1 (by decide) (by decide)
  have hX22 := stk_blkB hK2 hX2 (by decide) (by decide)
  have hB2 : B ≤ w2.heap.size := by have := hK2.bel.size; omega
  have la := rs_la hX02 rfl
  have cP := rRemove_any x.f w2 hp0
  have af1 := afd1 w2 (b + 1)
  have l1 : (Instr.loadAt 3 (.pointer (some ⟨(b + 1), 1, none⟩))).run Tryd.prog w2 = .ok (.int .i64 x.f) w2 := load_int (hX12.cell 1)
  go_upto_region 11 with fail
  refine wp_region_lit ?_
  refine fl_start ?_
  generalize ha : Act.mk _ _ = a0
  have hn : a0.tmps.size = 109 := by rw [← ha]; kernel_rfl
  have h4 : (fr a0 []).eval (.tmp 4) = .pointer (some ⟨b, 0, none⟩) := by rw [← ha]; kernel_rfl
  refine fl_know hn rfl h4 ?_
  clear h4
  have h5 : (fr a0 [(4, true, .pointer (some ⟨b, 0, none⟩))]).eval (.tmp 5) = .pointer (some ⟨b + 1, 0, none⟩) := by rw [← ha]; kernel_rfl
  refine fl_know hn rfl h5 ?_
  clear h5
  refine g_ld hn ?_
  refine g_fd hn ?_
  refine g_ld hn ?_
  refine fl_callx (R := fun v w3 => ∃ (A : Option Addr) (n c : Nat) (A2 : Option Addr) (n2 c2 : Nat), v = .tuple #[.agg (rsS A n c A2 n2 c2), .int .i64 0] ∧ Below w2.heap.size w2 w3) hn rfl rfl rfl (fun hk => call2_is en_spinney_spinneyref09_Remove _ _ _ _ _ _ _ _ _ (.agg rs0) (.int .i64 x.f) (lk_at hk (i := 55) rfl (fun _ => rfl) rfl) (lk_at hk (i := 57) rfl (fun _ => rfl) rfl) rfl) (cP.mono fun _ _ ⟨A, n, c, A2, n2, c2, he, hb⟩ => ⟨_, he, A, n, c, A2, n2, c2, rfl, hb⟩) ?_
  rintro v w3 ⟨A, n, c, A2, n2, c2, rfl, hb3⟩
  refine g_mv hn ?_
  refine g_ex hn ?_
  refine g_ex hn ?_
  refine g_str (hX02.keep hb3) ?_ (h1 := rsS_one _ _ _ _ _ _)
  intro w4 ho4 hX4
  refine g_as hn ?_
  refine fl_end ?_
  clear hn la af1 l1 cP
  subst ha
  dsimp only [fr, cnd, Act.put, cond_true]
  simp only [List.setIfInBounds_toArray, List.set_cons_zero, List.set_cons_succ]
  have hX24 := (hX22.keep hb3).only ho4 (by omega)
  have hR4 := (hR2.below hb3).onlyB (hX02.keep hb3) (by decide) (by decide) ho4
  have hK4 : StK B W w4 := ((hK0.trans hK2).trans (StK.of_below hb3 hB2)).newB ho4 (by omega) hBW
  clear hX02 hX12 hX22 hR2 hK2 hK0 hb3 ho4
  have l1 : ∀ W' : World, (fun W => Blk W b (rsS A n c A2 n2 c2) 35) W' → (Instr.loadAt 35 (.pointer (some ⟨b, 0, none⟩))).run Tryd.prog W' = .ok (.agg (rsS A n c A2 n2 c2)) W' := fun W' hW => rs_la hW rfl
  go_upto_region 21 with fail
  refine fh_start (S := (fun W => Blk W b (rsS A n c A2 n2 c2) 35)) (by kernel_rfl) (hX4) (fun hS => ?_)
  generalize ha : Act.mk _ _ = a0
  have hn : a0.tmps.size = 109 := by rw [← ha]; kernel_rfl
  have h0 : (fr a0 []).eval (.tmp 0) = .pointer (some ⟨s, 0, none⟩) := by rw [← ha]; kernel_rfl
  refine fh_know hn rfl h0 ?_
  clear h0
  have h4 : (fr a0 [(0, true, .pointer (some ⟨s, 0, none⟩))]).eval (.tmp 4) = .pointer (some ⟨b, 0, none⟩) := by rw [← ha]; kernel_rfl
  refine fh_know hn rfl h4 ?_
  clear h4
  have h7 : (fr a0 [(4, true, .pointer (some ⟨b, 0, none⟩)), (0, true, .pointer (some ⟨s, 0, none⟩))]).eval (.tmp 7) = .pointer (some ⟨b + 2, 0, none⟩) := by rw [← ha]; kernel_rfl
  refine fh_know hn rfl h7 ?_
  clear h7
  have h10 : (fr a0 [(7, true, .pointer (some ⟨b + 2, 0, none⟩)), (4, true, .pointer (some ⟨b, 0, none⟩)), (0, true, .pointer (some ⟨s, 0, none⟩))]).eval (.tmp 10) = .int .i64 code := by rw [← ha]; kernel_rfl
  refine fh_know hn rfl h10 ?_
  clear h10
  have h11 : (fr a0 [(10, true, .int .i64 code), (7, true, .pointer (some ⟨b + 2, 0, none⟩)), (4, true, .pointer (some ⟨b, 0, none⟩)), (0, true, .pointer (some ⟨s, 0, none⟩))]).eval (.tmp 11) = .int .i64 0 := by rw [← ha]; kernel_rfl
  refine fh_know hn rfl h11 ?_
  clear h11
  refine h_mv 0 hn hS ?_
  refine h_ld 1 hn hS ?_
  refine h_mv 2 hn hS ?_
  refine h_mv 3 hn hS ?_
  refine h_as 4 hn hS ?_
  have hX24d : Blk w4.drew (b + 2) #[.slice none 0 0, .slice none 0 0, .int .i64 0, .bool false] 35 := hX24
  have ho5 := only_row w4.drew (b + 2) (rsS A n c A2 n2 c2)
  have hX5 := hX24d.row (rsS A n c A2 n2 c2)
  have hS5 : (fun W => Blk W b (rsS A n c A2 n2 c2) 35) (w4.drew.setRow (b + 2) (rsS A n c A2 n2 c2)) := (show Blk w4.drew b (rsS A n c A2 n2 c2) 35 from hX4).only ho5 (by omega)
  refine h_st 5 (st_rowS (c := rsS A n c A2 n2 c2) hX24d rfl rfl (rsS_one _ _ _ _ _ _)) hS5 ?_
  refine h_as 6 hn hS5 ?_
  refine h_as 7 hn hS5 ?_
  refine fh_end (by kernel_rfl) ?_
  clear hn l1
  subst ha
  dsimp only [fr, cnd, Act.put, cond_true]
  simp only [List.setIfInBounds_toArray, List.set_cons_zero, List.set_cons_succ]
  have hR5 := hR4.drew.onlyB hX24d (by decide) (by decide) ho5
  have hK5 : StK B W (w4.drew.setRow (b + 2) (rsS A n c A2 n2 c2)) := hK4.drew.newB ho5 (by omega) hBW
  clear hX24 hX24d hR4 hK4 hX4 hS hS5 ho5
  generalize w4.drew.setRow (b + 2) (rsS A n c A2 n2 c2) = w9 at hX5 hR5 hK5 ⊢
  go_wp2_with fail
  refine bodyPost_ret (results_tctt Tryd.results8 _ _ (b + 2) 35 (rsS A n c A2 n2 c2) (0, 0) _ (by rfl) hX5 Tryd.underlying35 (by rfl) (by kernel_rfl)) rfl ?_
  exact ⟨M2, A, n, c, A2, n2, c2, code, 0, rfl, hR5, hK5, hM⟩
/-- The law's Do, of a write, a flush, a removal. -/
theorem doB_any {C : Nat} (S : Addr) (B s : Nat) (M : Sl) (x : Ac) (W : World) (hR : SlR B W s M) (hE : LaidE S W) (hg : 0 < B) (hx : x.rd C W) (hC : C ≤ B) (hk1 : 1 ≤ x.k) (hk3 : x.k ≤ 3) (hp : placeB x.f x.b = true) (hn64 : x.n1 ≤ 64) (hpl : M.pend.length ≤ 1000000) : Calls Tryd.prog 8 #[.pointer (some ⟨s, 0, none⟩), .agg rs0, .agg x.cells] W (DoBR B s M W) := by
  rcases (by omega : x.k = 1 ∨ x.k = 2 ∨ x.k = 3) with h | h | h
  · exact doB_kind1 S B s M x W hR hE hg hx hC h hp hn64 hpl
  · exact doB_kind2 S B s M x W hR hE hg hx hC h hp hn64 hpl
  · exact doB_kind3 S B s M x W hR hE hg hx hC h hp hn64 hpl
end Go.Proofs.YtjbmhbnlanbbkaaDoor
