/-
  WHAT IS PROVED: the law SlateBudget returns true. Conditions: those typed in each theorem.
-/
import Derived.Test.YtjbmhbnlanbbkaaDoorSbB
import Derived.Test.YtjbmhbnlanbbkaaDoorGQ5
import Derived.Test.YtjbmhbnlanbbkaaDoorGQ4
import Derived.Test.YtjbmhbnlanbbkaaDoorGQ7
import Derived.Test.YtjbmhbnlanbbkaaDoorOneC
namespace Go.Proofs.YtjbmhbnlanbbkaaDoor
open Go.RowKit

theorem enB_spinney_slate_New : ∀ args w, (callFunc 4 args).run Tryd.prog w = .ok (.enter 4 args) w := enters_of Tryd.func4 (by kernel_rfl) rfl
theorem enB_spinney_spinneylaw09_awake : ∀ args w, (callFunc 5 args).run Tryd.prog w = .ok (.enter 5 args) w := enters_of Tryd.func5 (by kernel_rfl) rfl
theorem enB_spinney_slate_Slate_Arm : ∀ args w, (callFunc 6 args).run Tryd.prog w = .ok (.enter 6 args) w := enters_of Tryd.func6 (by kernel_rfl) rfl
theorem enB_spinney_slate_Slate_Dead : ∀ args w, (callFunc 10 args).run Tryd.prog w = .ok (.enter 10 args) w := enters_of Tryd.func10 (by kernel_rfl) rfl
theorem enB_spinney_spinneyref09_New : ∀ args w, (callFunc 9 args).run Tryd.prog w = .ok (.enter 9 args) w := enters_of Tryd.func9 (by kernel_rfl) rfl
theorem enB_spinney_spinneylaw09_Do : ∀ args w, (callFunc 8 args).run Tryd.prog w = .ok (.enter 8 args) w := enters_of Tryd.func8 (by kernel_rfl) rfl

theorem enB_Place : ∀ args w, (callFunc 7 args).run Tryd.prog w = .ok (.enter 7 args) w := en_spinney_spinneyref09_Place
theorem g_offA {l : List Oper} {Q : Exit → Act → World → Prop} {rest : List Oper} {a0 : Act} {L : List (Nat × Bool × Value)} {w : World} {P : Program} {o : Oper} {d n : Nat} (v : Value) (hn : a0.tmps.size = n) (h : FL P l Q rest a0 ((d, false, v) :: L) w) (ho : o.dst = some d := by rfl) (hd : Nat.blt d n = true := by rfl) (hw : wtG l L o.guard = some false := by rfl) : FL P l Q (o :: rest) a0 L w :=
  fl_op hn ho hd hw (fun _ hg => nomatch hg) h
theorem lssB (W : World) (i : Nat) (k c : Int) (b : Bool) (h : decide (k < c) = b) : ((do eqGuard .lss 3 (.tmp i) (.const (.int .i64 c)) (.int .i64 k) (.int .i64 c); binOp .lss 3 (.int .i64 k) (.int .i64 c)) : Sem Value).run Tryd.prog W = .ok (.bool b) W := by
  subst h
  go_simp
theorem gtrB (W : World) (i : Nat) (k c : Int) (b : Bool) (h : decide (c < k) = b) : ((do eqGuard .gtr 3 (.tmp i) (.const (.int .i64 c)) (.int .i64 k) (.int .i64 c); binOp .gtr 3 (.int .i64 k) (.int .i64 c)) : Sem Value).run Tryd.prog W = .ok (.bool b) W := by
  subst h
  go_simp
theorem neqBB (W : World) (i j : Nat) (a b c : Bool) (h : (a != b) = c) : ((do eqGuard .neq 4 (.tmp i) (.tmp j) (.bool a) (.bool b); binOp .neq 4 (.bool a) (.bool b)) : Sem Value).run Tryd.prog W = .ok (.bool c) W := by
  subst h
  cases a <;> cases b <;> kernel_rfl
theorem cvB (W : World) (n : UInt8) : (convert 5 3 (.int .u8 (n.toNat : Int))).run Tryd.prog W = .ok (.int .i64 (n.toNat : Int)) W := by
  have h := n.toNat_lt
  generalize n.toNat = v at *
  have hw : IntKind.i64.wrap (v : Int) = v := by unfold IntKind.wrap; simp [IntKind.bits, IntKind.signed]; omega
  go_simp
theorem x_npB {w : World} {ρ : Operand → Value} {d : Option Tmp} {ty ty2 : TypeId} {p : String} {af : Array Edge} {gd : Option (Nat × Bool)} {i s : Nat} (h : ρ (.tmp i) = .pointer (some ⟨s, 0, none⟩)) (hc : ρ (.const (.pointer none)) = .pointer none) : (execOp ρ ⟨d, .binOp .eql 23 (.tmp i) (.const (.pointer none)) ty2, ty, p, af, gd⟩).run Tryd.prog w = .ok (.value (.bool false)) w := by
  unfold execOp
  dsimp only
  rw [h, hc]
  kernel_rfl
theorem x_nqB {w : World} {ρ : Operand → Value} {d : Option Tmp} {ty ty2 : TypeId} {p : String} {af : Array Edge} {gd : Option (Nat × Bool)} {i s : Nat} (h : ρ (.tmp i) = .pointer (some ⟨s, 0, none⟩)) (hc : ρ (.const (.pointer none)) = .pointer none) : (execOp ρ ⟨d, .binOp .neq 23 (.tmp i) (.const (.pointer none)) ty2, ty, p, af, gd⟩).run Tryd.prog w = .ok (.value (.bool true)) w := by
  unfold execOp
  dsimp only
  rw [h, hc]
  kernel_rfl
theorem alRs (w : World) : (Instr.alloc 35 true (.tuple #[])).run Tryd.prog w = .ok (.pointer (some ⟨w.heap.size, 0, none⟩)) (w.alloc (.cells #[.slice none 0 0, .slice none 0 0, .int .i64 0, .bool false] 35)) := by kernel_rfl
theorem x_alRs {w : World} {ρ : Operand → Value} {d : Option Tmp} {ty : TypeId} {p : String} {af : Array Edge} {gd : Option (Nat × Bool)} : (execOp ρ ⟨d, .alloc 35, ty, p, af, gd⟩).run Tryd.prog w = .ok (.value (.pointer (some ⟨w.heap.size, 0, none⟩))) (w.alloc (.cells #[.slice none 0 0, .slice none 0 0, .int .i64 0, .bool false] 35)) := by
  unfold execOp
  dsimp only
  rw [Sem.run_bind, alRs]
  rfl
theorem ac_laB {W : World} {g : Nat} {x : Ac} {t : TypeId} (h : Blk W g x.cells t) : (Instr.loadAt tAc (.pointer (some ⟨g, 0, none⟩))).run Tryd.prog W = .ok (.agg x.cells) W := ald0 (h.cell 0) (h.cell 1) (h.cell 2) (h.cell 3) (h.cell 4) (h.cell 5)
theorem call0_isB {f : FuncId} {w : World} (he : ∀ args w, (callFunc f args).run Tryd.prog w = .ok (.enter f args) w) (d : Option Tmp) (ts : Array TypeId) (ty : TypeId) (p : String) (af : Array Edge) (gd : Option (Nat × Bool)) (ρ : Operand → Value) (hf : ρ (.func f) = .func (.func f) #[] #[]) : (execOp ρ ⟨d, .call { callee := .value (.func f), args := #[], argTypes := ts }, ty, p, af, gd⟩).run Tryd.prog w = .ok (.enter f #[]) w := by
  unfold execOp
  dsimp only
  go_simp
theorem blk_neB {W : World} {g k : Nat} {cs ds : Array Value} {t u : TypeId} (h : Blk W g cs t) (hk : Blk W k ds u) (hne : t ≠ u) : g ≠ k := fun e => by
  subst e
  have h2 := h.symm.trans hk
  injection h2 with h2
  injection h2 with _ h2 _
  exact hne h2
theorem StK.newC {B k : Nat} {W w2 w4 : World} (h : StK B W w2) (ho : Only1 k w2 w4) (hk : B ≤ k) (hw : W.heap.size ≤ B) : StK B W w4 :=
  ⟨h.bel.trans (ho.below hk), fun x cs t fr hx h1 h2 => (ho.block x (fun e => by have := (Array.getElem?_eq_some_iff.1 hx).1; omega)).trans (h.cel x cs t fr hx h1 h2)⟩
/-- What holds at each act: the slate's budget is what is left; while some is left, it isn't dead. -/
structure KB (B s : Nat) (w0 W : World) (M : Sl) (left k : Nat) : Prop where
  sl : SlR B W s M
  st : StK B w0 W
  armed : M.armed = true
  bud : M.budget = (left : Int)
  few : left ≤ 255
  live : 0 < left → M.dead = false
  pend : M.pend.length ≤ k
theorem KB.sz {B s : Nat} {w0 W : World} {M : Sl} {left k : Nat} (h : KB B s w0 W M left k) : B ≤ W.heap.size := h.sl.size
theorem KB.keep {B s : Nat} {w0 W W' : World} {M : Sl} {left k : Nat} (h : KB B s w0 W M left k) (hb : Below W.heap.size W W') : KB B s w0 W' M left k := ⟨h.sl.below hb, h.st.trans (StK.of_below hb h.sz), h.armed, h.bud, h.few, h.live, h.pend⟩
theorem KB.next {B s : Nat} {w0 W : World} {M : Sl} {left k : Nat} (h : KB B s w0 W M left k) : KB B s w0 W M left (k + 1) := ⟨h.sl, h.st, h.armed, h.bud, h.few, h.live, Nat.le_succ_of_le h.pend⟩
/-- A step is done, or refused. -/
theorem KB.step {B s : Nat} {w0 W W' : World} {M M' : Sl} {left k : Nat} {code : Int} (h : KB B s w0 W M left k) (hR : SlR B W' s M') (hK : StK B w0 W') (hM : StpM M M' code) : KB B s w0 W' M' (left - 1) (k + 1) ∧ (0 < left → code = 0 ∧ M'.dead = false) ∧ (left = 0 → code = 7 ∧ M'.dead = true) := by
  have hsp : M.spent = decide (left = 0) := by
    unfold Sl.spent spentB
    rw [h.armed, h.bud]
    by_cases e : left = 0
    · subst e
      rfl
    · rw [Bool.true_and, decide_eq_false e, beq_eq_false_iff_ne]
      omega
  have h1 : 0 < left → code = 0 ∧ M'.dead = false := fun hl => by
    obtain ⟨h2, h3⟩ := hM.ok (by rw [hsp]; exact decide_eq_false (by omega))
    exact ⟨h2, by rw [h3]; exact h.live hl⟩
  refine ⟨⟨hR, hK, by rw [hM.armed]; exact h.armed, ?_, by have := h.few; omega, fun hl => (h1 (by omega)).2, Nat.le_trans hM.pend (Nat.succ_le_succ h.pend)⟩, h1, fun hl => hM.sp (by rw [hsp]; exact decide_eq_true hl)⟩
  rw [hM.bud, h.armed, h.bud]
  unfold stB
  by_cases e : left = 0
  · subst e
    rw [if_neg (by simp)]
  · rw [if_pos ⟨rfl, by omega⟩]
    omega
theorem subB (W : World) (i v : Nat) (h : 0 < v) (h2 : v ≤ 1000) : ((do eqGuard .sub 3 (.tmp i) (.const (.int .i64 1)) (.int .i64 (v : Int)) (.int .i64 1); binOp .sub 3 (.int .i64 (v : Int)) (.int .i64 1)) : Sem Value).run Tryd.prog W = .ok (.int .i64 ((v - 1 : Nat) : Int)) W := by
  have e : ((v - 1 : Nat) : Int) = (v : Int) - 1 := by omega
  have e2 : IntKind.i64.wrap ((v : Int) - 1) = (v : Int) - 1 := by rw [IntKind.wrap_i64]; omega
  have e3 : wrap64 ((v : Int) - 1) = (v : Int) - 1 := by
    unfold wrap64
    omega
  rw [e]
  clear e
  first
    | (simp [eqGuard, binOp, go_sem, e2, e3]; done)
    | (go_simp; simp [e2, e3])
theorem x_maxB {w : World} {ρ : Operand → Value} {d : Option Tmp} {ts : Array TypeId} {ty : TypeId} {p : String} {af : Array Edge} {gd : Option (Nat × Bool)} {i v : Nat} (h : ρ (.tmp i) = .int .i64 (v : Int)) (hc : ρ (.const (.int .i64 0)) = .int .i64 0 := by rfl) : (execOp ρ ⟨d, .call { callee := .builtin .max, args := #[.tmp i, .const (.int .i64 0)], argTypes := ts }, ty, p, af, gd⟩).run Tryd.prog w = .ok (.value (.int .i64 (v : Int))) w := by
  unfold execOp
  dsimp only
  have h2 : (0 : Int) ≤ (v : Int) := by omega
  go_simp
  intro h3
  omega
theorem x_maxC {w : World} {ρ : Operand → Value} {d : Option Tmp} {ts : Array TypeId} {ty : TypeId} {p : String} {af : Array Edge} {gd : Option (Nat × Bool)} {i : Nat} (h : ρ (.tmp i) = .int .i64 (-1)) (hc : ρ (.const (.int .i64 0)) = .int .i64 0 := by rfl) : (execOp ρ ⟨d, .call { callee := .builtin .max, args := #[.tmp i, .const (.int .i64 0)], argTypes := ts }, ty, p, af, gd⟩).run Tryd.prog w = .ok (.value (.int .i64 ((0 - 1 : Nat) : Int))) w := by
  unfold execOp
  dsimp only
  go_simp
theorem x_alAcB {w : World} {ρ : Operand → Value} {d : Option Tmp} {ty : TypeId} {p : String} {af : Array Edge} {gd : Option (Nat × Bool)} : (execOp ρ ⟨d, .alloc tAc, ty, p, af, gd⟩).run Tryd.prog w = .ok (.value (.pointer (some ⟨w.heap.size, 0, none⟩))) (w.alloc (.cells (acI 0 0 0 0 none 0 0 none 0 0) tAc)) := by
  unfold execOp
  dsimp only
  rw [Sem.run_bind, alA6]
  rfl
set_option maxRecDepth 100000 in
set_option maxHeartbeats 4000000 in
theorem slateBudget_all (S : Addr) (n : UInt8) (A : Option Addr) (N c : Nat) (l : List Ac) (w : World) (hn0 : l.length = N) (hr : RdA w.heap.size w A l) (hE : LaidE S w) : Calls Tryd.prog 3 #[.int .u8 (n.toNat : Int), .slice A N c] w fun e w' => e = .returned (.bool true) ∧ Below w.heap.size w w' := by
  have HN := Lib.hid hn0
  obtain ⟨B, hB⟩ : ∃ B, B = w.heap.size := ⟨_, rfl⟩
  obtain ⟨w0, hw0⟩ : ∃ w0, w0 = w := ⟨_, rfl⟩
  have hg : 0 < B := by rw [hB]; exact World.block_lt_of_cell? w _ hE
  have HR : Hid (∀ W, Below B w0 W → RdA B W A l) := Lib.hid (fun W hb => by
    rw [hB]
    rw [hB, hw0] at hb
    exact hr.keep hb (Nat.le_refl _))
  have HB := Lib.hid hB
  have HW := Lib.hid hw0
  have hwB : w0.heap.size ≤ B := by rw [hw0, hB]; exact Nat.le_refl _
  have hn256 := n.toNat_lt
  have cN := new_any w
  rw [← hw0] at hE
  clear hr hn0
  go_enter Tryd.func3, Tryd.ntmps3
  go_upto_region 1 with fail
  clear hB hw0
  refine wp_region_lit ?_
  refine fl_start ?_
  generalize ha : Act.mk _ _ = a0
  have hn : a0.tmps.size = 125 := by rw [← ha]; kernel_rfl
  refine g_cvx enB_spinney_slate_New hn (vs := #[]) (fun _ => by simp) cN ?_
  rintro v w1 ⟨s, rfl, hR1, hb1⟩
  refine g_as hn ?_
  refine fl_end ?_
  clear hn cN
  subst ha
  dsimp only [fr, cnd, Act.put, cond_true]
  simp only [List.setIfInBounds_toArray, List.set_cons_zero, List.set_cons_succ]
  rw [← HB.out] at hR1
  rw [← HW.out] at hb1
  have hSK1 : StK B w0 w1 := StK.of_below hb1 (by rw [HB.out, HW.out]; exact Nat.le_refl _)
  have hE1 := hE.stk hSK1 hg
  have cA := awake9_any S w1 hE1
  by_cases h60 : N ≤ 60
  · skip
    have dB : decide ((60 : Int) < (N : Int)) = false := decide_eq_false (by omega)
    go_upto_region 2 with fail
    refine wp_region_lit ?_
    refine fl_start ?_
    generalize ha : Act.mk _ _ = a0
    have hn : a0.tmps.size = 125 := by rw [← ha]; kernel_rfl
    have h0 : (fr a0 []).eval (.tmp 0) = .int .u8 (n.toNat : Int) := by rw [← ha]; kernel_rfl
    refine fl_know hn rfl h0 ?_
    clear h0
    have h1 : (fr a0 [(0, true, .int .u8 (n.toNat : Int))]).eval (.tmp 1) = .slice A N c := by rw [← ha]; kernel_rfl
    refine fl_know hn rfl h1 ?_
    clear h1
    have h5 : (fr a0 [(1, true, .slice A N c), (0, true, .int .u8 (n.toNat : Int))]).eval (.tmp 5) = .pointer (some ⟨s, 0, none⟩) := by rw [← ha]; kernel_rfl
    refine fl_know hn rfl h5 ?_
    clear h5
    refine g_cvx enB_spinney_spinneylaw09_awake hn (R := fun v w2 => v = .bool true ∧ Below w1.heap.size w1 w2) (vs := #[]) (fun _ => by simp) (cA.mono fun _ _ ⟨he, h⟩ => ⟨_, he, rfl, h⟩) ?_
    rintro v w2 ⟨rfl, hb2⟩
    refine g_nt hn ?_
    refine g_mv hn ?_
    refine g_mv hn ?_
    refine g_o1 hn (i := 17) (vi := .pointer (some ⟨s, 0, none⟩)) (v := .bool false) (fun ρ h hc => x_npB h (hc _)) ?_
    refine g_or hn ?_
    refine g_mv hn ?_
    refine g_mv hn ?_
    refine g_ln hn ?_
    refine g_bc hn ?_ (hr := gtrB w2 22 (N : Nat) 60 false dB)
    have hR2 := hR1.below hb2
    have hSK2 := hSK1.trans (StK.of_below hb2 hR1.size)
    have cR := arm_any B s sl0 (n.toNat : Int) w2 hR2
    have hab : armB (n.toNat : Int) = true := by
      unfold armB
      rw [decide_eq_true (by omega), decide_eq_true (by omega)]
      rfl
    rw [hab] at cR
    refine g_or hn ?_
    refine g_mv hn ?_
    refine g_mv hn ?_
    refine g_mv hn ?_
    refine g_cv hn ?_ (hr := cvB w2 n)
    refine g_c2x enB_spinney_slate_Slate_Arm hn (R := fun v w3 => v = .int .i64 0 ∧ SlR B w3 s (sl0.arms (n.toNat : Int)) ∧ StK B w2 w3) (cR.mono fun _ _ ⟨he, h1, h2⟩ => ⟨_, he, rfl, h1, h2⟩) ?_
    rintro v w3 ⟨rfl, hR3, hK3⟩
    refine g_bc hn ?_ (hr := er_neq 29 0 0 w3)
    refine g_or hn ?_
    refine fl_end ?_
    clear hn cA cR
    subst ha
    dsimp only [fr, cnd, Act.put, cond_true]
    simp only [List.setIfInBounds_toArray, List.set_cons_zero, List.set_cons_succ]
    have hSK3 := hSK2.trans hK3
    clear hR1 hR2 hSK1 hSK2 hK3 hb2 hE1 hb1
    go_upto_region 4 with fail
    refine wp_region_lit ?_
    refine fl_start ?_
    generalize ha : Act.mk _ _ = a0
    have hn : a0.tmps.size = 125 := by rw [← ha]; kernel_rfl
    have h0 : (fr a0 []).eval (.tmp 0) = .int .u8 (n.toNat : Int) := by rw [← ha]; kernel_rfl
    refine fl_know hn rfl h0 ?_
    clear h0
    refine g_mv hn ?_
    refine g_cv hn ?_ (hr := cvB w3 n)
    refine g_as hn ?_
    refine fl_end ?_
    clear hn
    subst ha
    dsimp only [fr, cnd, Act.put, cond_true]
    simp only [List.setIfInBounds_toArray, List.set_cons_zero, List.set_cons_succ]
    go_wp2_with fail
    have hKB0 : KB B s w0 w3 (sl0.arms (n.toNat : Int)) n.toNat 0 := ⟨hR3, hSK3, rfl, rfl, by omega, fun _ => rfl, Nat.le_refl _⟩
    clear hR3 hSK3
    go_loopw [5, 6, 41] (fun t5 t6 i wr => ∃ (k left : Nat) (M : Sl), k ≤ N ∧ i = .int .i64 k ∧ t5 = .pointer (some ⟨s, 0, none⟩) ∧ t6 = .int .i64 (left : Nat) ∧ KB B s w0 wr M left k) (fun _ _ i _ => N - (intOf i).toNat)
    case atStart => exact ⟨0, n.toNat, _, Nat.zero_le _, rfl, rfl, rfl, hKB0⟩
    case round =>
      clear hKB0
      obtain ⟨k, left, M, hk, rfl, rfl, rfl, hK⟩ := hrel
      by_cases hlt : k < N
      · have i2 : (k : Int) < (N : Int) := by omega
        obtain ⟨x, hx⟩ : ∃ x, l[k]? = some x := ⟨_, List.getElem?_eq_getElem (show k < l.length by have := HN.out; omega)⟩
        obtain ⟨ad, rfl, hadb, hc0, -⟩ := (HR.out w0 (Below.refl _ _)).at_ hx
        have hc : ∀ j v, x.cells[j]? = some v → wr.cell? (ad.add (k * 6 + j)) = some v := fun j v hv => (hK.st.bel.cell (by rw [add_block]; exact hadb)).trans (hc0 j v hv)
        have HRx : Hid (∀ W : World, Below B w0 W → x.rd B W) := Lib.hid (fun W hW => (HR.out W hW).2 x (List.mem_of_getElem? hx))
        have x1 := aix wr ad N c k hlt
        have l1 := ald hc
        go_upto_region 7 with fail
        refine wp_region_lit ?_
        refine fl_start ?_
        generalize ha : Act.mk _ _ = a0
        have hn : a0.tmps.size = 125 := by rw [← ha]; kernel_rfl
        have h39 : (fr a0 []).eval (.tmp 39) = .slice (some ad) N c := by rw [← ha]; kernel_rfl
        refine fl_know hn rfl h39 ?_
        clear h39
        have h41 : (fr a0 [(39, true, .slice (some ad) N c)]).eval (.tmp 41) = .int .i64 (k : Nat) := by rw [← ha]; kernel_rfl
        refine fl_know hn rfl h41 ?_
        clear h41
        refine g_ix hn ?_
        refine g_ld hn ?_
        refine g_w (v := .pointer (some ⟨wr.heap.size, 0, none⟩)) (w2 := wr.alloc (.cells (acI 0 0 0 0 none 0 0 none 0 0) tAc)) hn (fun _ => x_alAcB) ?_
        have hX2 := blk_new wr (acI 0 0 0 0 none 0 0 none 0 0) tAc
        have hb2 := b0 wr (.cells (acI 0 0 0 0 none 0 0 none 0 0) tAc)
        generalize wr.alloc (.cells (acI 0 0 0 0 none 0 0 none 0 0) tAc) = w2 at hX2 hb2 ⊢
        obtain ⟨q, hq⟩ : ∃ q, q = wr.heap.size := ⟨_, rfl⟩
        rw [← hq] at hX2 ⊢
        refine g_str hX2 ?_ (h1 := ac_oneC x)
        intro w3 ho3 hX3
        refine fl_end ?_
        clear hn x1 l1
        subst ha
        dsimp only [fr, cnd, Act.put, cond_true]
        simp only [List.setIfInBounds_toArray, List.set_cons_zero, List.set_cons_succ]
        have hK3 := hK.keep (hb2.trans (ho3.below (by omega)))
        clear hX2 hb2 ho3 hq hc hc0 hK hadb hx
        by_cases hc1 : x.k < 1
        · skip
          have af0 := afd0 w3 q
          have l0 : (Instr.loadAt 3 (.pointer (some ⟨q, 0, none⟩))).run Tryd.prog w3 = .ok (.int .i64 x.k) w3 := load_int (hX3.cell 0)
          have af1 := afd1 w3 q
          have l1 : (Instr.loadAt 3 (.pointer (some ⟨q, 1, none⟩))).run Tryd.prog w3 = .ok (.int .i64 x.f) w3 := load_int (hX3.cell 1)
          have af2 := afd2 w3 q
          have l2 : (Instr.loadAt 3 (.pointer (some ⟨q, 2, none⟩))).run Tryd.prog w3 = .ok (.int .i64 x.b) w3 := load_int (hX3.cell 2)
          have af4 := afd4 w3 q
          have l4 := lsl (t := 28) (.inl rfl) (hX3.cell 4)
          have cP := place_any x.f x.b w3
          go_upto_region 8 with fail
          refine wp_region_lit ?_
          refine fl_start ?_
          generalize ha : Act.mk _ _ = a0
          have hn : a0.tmps.size = 125 := by rw [← ha]; kernel_rfl
          have h8 : (fr a0 []).eval (.tmp 8) = .pointer (some ⟨q, 0, none⟩) := by rw [← ha]; kernel_rfl
          refine fl_know hn rfl h8 ?_
          clear h8
          refine g_fd hn ?_
          refine g_ld hn ?_
          refine g_bc hn ?_ (hr := lssB w3 46 x.k 1 true (by exact decide_eq_true hc1))
          refine g_mv hn ?_
          refine g_offA .nilIface hn ?_
          refine g_offA .nilIface hn ?_
          refine g_offA (.bool false) hn ?_
          refine g_or hn ?_
          refine g_mv hn ?_
          refine g_offA .nilIface hn ?_
          refine g_offA .nilIface hn ?_
          refine g_offA .nilIface hn ?_
          refine g_offA (.bool false) hn ?_
          refine g_or hn ?_
          refine g_mv hn ?_
          refine g_offA .nilIface hn ?_
          refine g_offA .nilIface hn ?_
          refine g_offA .nilIface hn ?_
          refine g_offA .nilIface hn ?_
          refine g_offA .nilIface hn ?_
          refine g_offA (.bool false) hn ?_
          refine g_or hn ?_
          refine fl_end ?_
          clear hn af0 l0 af1 l1 af2 l2 af4 l4 cP
          subst ha
          dsimp only [fr, cnd, Act.put, cond_true]
          simp only [List.setIfInBounds_toArray, List.set_cons_zero, List.set_cons_succ]
          have hK9 := hK3.next
          clear hK3 hX3
          go_wp2_with fail
          refine ⟨?_, ?_⟩
          · first
            | exact ⟨k + 1, left, M, by omega, by go_num, rfl, rfl, hK9⟩
            | repeat apply Exists.intro
              refine ⟨?_, rfl⟩
              exact ⟨k + 1, left, M, by omega, by go_num, rfl, rfl, hK9⟩
            | repeat apply Exists.intro
              refine ⟨?_, rfl, rfl, rfl⟩
              exact ⟨k + 1, left, M, by omega, by go_num, rfl, rfl, hK9⟩
          · simp [intOf]; omega
        · skip
          by_cases hc2 : 3 < x.k
          · skip
            have af0 := afd0 w3 q
            have l0 : (Instr.loadAt 3 (.pointer (some ⟨q, 0, none⟩))).run Tryd.prog w3 = .ok (.int .i64 x.k) w3 := load_int (hX3.cell 0)
            have af1 := afd1 w3 q
            have l1 : (Instr.loadAt 3 (.pointer (some ⟨q, 1, none⟩))).run Tryd.prog w3 = .ok (.int .i64 x.f) w3 := load_int (hX3.cell 1)
            have af2 := afd2 w3 q
            have l2 : (Instr.loadAt 3 (.pointer (some ⟨q, 2, none⟩))).run Tryd.prog w3 = .ok (.int .i64 x.b) w3 := load_int (hX3.cell 2)
            have af4 := afd4 w3 q
            have l4 := lsl (t := 28) (.inl rfl) (hX3.cell 4)
            have cP := place_any x.f x.b w3
            go_upto_region 8 with fail
            refine wp_region_lit ?_
            refine fl_start ?_
            generalize ha : Act.mk _ _ = a0
            have hn : a0.tmps.size = 125 := by rw [← ha]; kernel_rfl
            have h8 : (fr a0 []).eval (.tmp 8) = .pointer (some ⟨q, 0, none⟩) := by rw [← ha]; kernel_rfl
            refine fl_know hn rfl h8 ?_
            clear h8
            refine g_fd hn ?_
            refine g_ld hn ?_
            refine g_bc hn ?_ (hr := lssB w3 46 x.k 1 false (by exact decide_eq_false hc1))
            refine g_mv hn ?_
            refine g_fd hn ?_
            refine g_ld hn ?_
            refine g_bc hn ?_ (hr := gtrB w3 50 x.k 3 true (by exact decide_eq_true hc2))
            refine g_or hn ?_
            refine g_mv hn ?_
            refine g_offA .nilIface hn ?_
            refine g_offA .nilIface hn ?_
            refine g_offA .nilIface hn ?_
            refine g_offA (.bool false) hn ?_
            refine g_or hn ?_
            refine g_mv hn ?_
            refine g_offA .nilIface hn ?_
            refine g_offA .nilIface hn ?_
            refine g_offA .nilIface hn ?_
            refine g_offA .nilIface hn ?_
            refine g_offA .nilIface hn ?_
            refine g_offA (.bool false) hn ?_
            refine g_or hn ?_
            refine fl_end ?_
            clear hn af0 l0 af1 l1 af2 l2 af4 l4 cP
            subst ha
            dsimp only [fr, cnd, Act.put, cond_true]
            simp only [List.setIfInBounds_toArray, List.set_cons_zero, List.set_cons_succ]
            have hK9 := hK3.next
            clear hK3 hX3
            go_wp2_with fail
            refine ⟨?_, ?_⟩
            · first
              | exact ⟨k + 1, left, M, by omega, by go_num, rfl, rfl, hK9⟩
              | repeat apply Exists.intro
                refine ⟨?_, rfl⟩
                exact ⟨k + 1, left, M, by omega, by go_num, rfl, rfl, hK9⟩
              | repeat apply Exists.intro
                refine ⟨?_, rfl, rfl, rfl⟩
                exact ⟨k + 1, left, M, by omega, by go_num, rfl, rfl, hK9⟩
            · simp [intOf]; omega
          · skip
            by_cases hc3 : (64 : Int) < (x.n1 : Int)
            · skip
              have af0 := afd0 w3 q
              have l0 : (Instr.loadAt 3 (.pointer (some ⟨q, 0, none⟩))).run Tryd.prog w3 = .ok (.int .i64 x.k) w3 := load_int (hX3.cell 0)
              have af1 := afd1 w3 q
              have l1 : (Instr.loadAt 3 (.pointer (some ⟨q, 1, none⟩))).run Tryd.prog w3 = .ok (.int .i64 x.f) w3 := load_int (hX3.cell 1)
              have af2 := afd2 w3 q
              have l2 : (Instr.loadAt 3 (.pointer (some ⟨q, 2, none⟩))).run Tryd.prog w3 = .ok (.int .i64 x.b) w3 := load_int (hX3.cell 2)
              have af4 := afd4 w3 q
              have l4 := lsl (t := 28) (.inl rfl) (hX3.cell 4)
              have cP := place_any x.f x.b w3
              go_upto_region 8 with fail
              refine wp_region_lit ?_
              refine fl_start ?_
              generalize ha : Act.mk _ _ = a0
              have hn : a0.tmps.size = 125 := by rw [← ha]; kernel_rfl
              have h8 : (fr a0 []).eval (.tmp 8) = .pointer (some ⟨q, 0, none⟩) := by rw [← ha]; kernel_rfl
              refine fl_know hn rfl h8 ?_
              clear h8
              refine g_fd hn ?_
              refine g_ld hn ?_
              refine g_bc hn ?_ (hr := lssB w3 46 x.k 1 false (by exact decide_eq_false hc1))
              refine g_mv hn ?_
              refine g_fd hn ?_
              refine g_ld hn ?_
              refine g_bc hn ?_ (hr := gtrB w3 50 x.k 3 false (by exact decide_eq_false hc2))
              refine g_or hn ?_
              refine g_mv hn ?_
              refine g_fd hn ?_
              refine g_ld hn ?_
              refine g_ln hn ?_
              refine g_bc hn ?_ (hr := gtrB w3 56 (x.n1 : Nat) 64 true (by exact decide_eq_true hc3))
              refine g_or hn ?_
              refine g_mv hn ?_
              refine g_offA .nilIface hn ?_
              refine g_offA .nilIface hn ?_
              refine g_offA .nilIface hn ?_
              refine g_offA .nilIface hn ?_
              refine g_offA .nilIface hn ?_
              refine g_offA (.bool false) hn ?_
              refine g_or hn ?_
              refine fl_end ?_
              clear hn af0 l0 af1 l1 af2 l2 af4 l4 cP
              subst ha
              dsimp only [fr, cnd, Act.put, cond_true]
              simp only [List.setIfInBounds_toArray, List.set_cons_zero, List.set_cons_succ]
              have hK9 := hK3.next
              clear hK3 hX3
              go_wp2_with fail
              refine ⟨?_, ?_⟩
              · first
                | exact ⟨k + 1, left, M, by omega, by go_num, rfl, rfl, hK9⟩
                | repeat apply Exists.intro
                  refine ⟨?_, rfl⟩
                  exact ⟨k + 1, left, M, by omega, by go_num, rfl, rfl, hK9⟩
                | repeat apply Exists.intro
                  refine ⟨?_, rfl, rfl, rfl⟩
                  exact ⟨k + 1, left, M, by omega, by go_num, rfl, rfl, hK9⟩
              · simp [intOf]; omega
            · skip
              cases hc4 : placeB x.f x.b with
              | false =>
                have af0 := afd0 w3 q
                have l0 : (Instr.loadAt 3 (.pointer (some ⟨q, 0, none⟩))).run Tryd.prog w3 = .ok (.int .i64 x.k) w3 := load_int (hX3.cell 0)
                have af1 := afd1 w3 q
                have l1 : (Instr.loadAt 3 (.pointer (some ⟨q, 1, none⟩))).run Tryd.prog w3 = .ok (.int .i64 x.f) w3 := load_int (hX3.cell 1)
                have af2 := afd2 w3 q
                have l2 : (Instr.loadAt 3 (.pointer (some ⟨q, 2, none⟩))).run Tryd.prog w3 = .ok (.int .i64 x.b) w3 := load_int (hX3.cell 2)
                have af4 := afd4 w3 q
                have l4 := lsl (t := 28) (.inl rfl) (hX3.cell 4)
                have cP := place_any x.f x.b w3
                go_upto_region 8 with fail
                refine wp_region_lit ?_
                refine fl_start ?_
                generalize ha : Act.mk _ _ = a0
                have hn : a0.tmps.size = 125 := by rw [← ha]; kernel_rfl
                have h8 : (fr a0 []).eval (.tmp 8) = .pointer (some ⟨q, 0, none⟩) := by rw [← ha]; kernel_rfl
                refine fl_know hn rfl h8 ?_
                clear h8
                refine g_fd hn ?_
                refine g_ld hn ?_
                refine g_bc hn ?_ (hr := lssB w3 46 x.k 1 false (by exact decide_eq_false hc1))
                refine g_mv hn ?_
                refine g_fd hn ?_
                refine g_ld hn ?_
                refine g_bc hn ?_ (hr := gtrB w3 50 x.k 3 false (by exact decide_eq_false hc2))
                refine g_or hn ?_
                refine g_mv hn ?_
                refine g_fd hn ?_
                refine g_ld hn ?_
                refine g_ln hn ?_
                refine g_bc hn ?_ (hr := gtrB w3 56 (x.n1 : Nat) 64 false (by exact decide_eq_false hc3))
                refine g_or hn ?_
                refine g_mv hn ?_
                refine g_fd hn ?_
                refine g_ld hn ?_
                refine g_fd hn ?_
                refine g_ld hn ?_
                refine g_c2x enB_Place hn (R := fun v w6 => v = .bool false ∧ w3 = w6) (cP.mono fun _ _ ⟨he, hw⟩ => ⟨_, he, by rw [hc4], hw.symm⟩) ?_
                rintro v w6 ⟨rfl, hw6⟩
                subst hw6
                refine g_nt hn ?_
                refine g_or hn ?_
                refine fl_end ?_
                clear hn af0 l0 af1 l1 af2 l2 af4 l4 cP
                subst ha
                dsimp only [fr, cnd, Act.put, cond_true]
                simp only [List.setIfInBounds_toArray, List.set_cons_zero, List.set_cons_succ]
                have hK9 := hK3.next
                clear hK3 hX3
                go_wp2_with fail
                refine ⟨?_, ?_⟩
                · first
                  | exact ⟨k + 1, left, M, by omega, by go_num, rfl, rfl, hK9⟩
                  | repeat apply Exists.intro
                    refine ⟨?_, rfl⟩
                    exact ⟨k + 1, left, M, by omega, by go_num, rfl, rfl, hK9⟩
                  | repeat apply Exists.intro
                    refine ⟨?_, rfl, rfl, rfl⟩
                    exact ⟨k + 1, left, M, by omega, by go_num, rfl, rfl, hK9⟩
                · simp [intOf]; omega
              | true =>
                have af0 := afd0 w3 q
                have l0 : (Instr.loadAt 3 (.pointer (some ⟨q, 0, none⟩))).run Tryd.prog w3 = .ok (.int .i64 x.k) w3 := load_int (hX3.cell 0)
                have af1 := afd1 w3 q
                have l1 : (Instr.loadAt 3 (.pointer (some ⟨q, 1, none⟩))).run Tryd.prog w3 = .ok (.int .i64 x.f) w3 := load_int (hX3.cell 1)
                have af2 := afd2 w3 q
                have l2 : (Instr.loadAt 3 (.pointer (some ⟨q, 2, none⟩))).run Tryd.prog w3 = .ok (.int .i64 x.b) w3 := load_int (hX3.cell 2)
                have af4 := afd4 w3 q
                have l4 := lsl (t := 28) (.inl rfl) (hX3.cell 4)
                have cP := place_any x.f x.b w3
                go_upto_region 8 with fail
                refine wp_region_lit ?_
                refine fl_start ?_
                generalize ha : Act.mk _ _ = a0
                have hn : a0.tmps.size = 125 := by rw [← ha]; kernel_rfl
                have h8 : (fr a0 []).eval (.tmp 8) = .pointer (some ⟨q, 0, none⟩) := by rw [← ha]; kernel_rfl
                refine fl_know hn rfl h8 ?_
                clear h8
                refine g_fd hn ?_
                refine g_ld hn ?_
                refine g_bc hn ?_ (hr := lssB w3 46 x.k 1 false (by exact decide_eq_false hc1))
                refine g_mv hn ?_
                refine g_fd hn ?_
                refine g_ld hn ?_
                refine g_bc hn ?_ (hr := gtrB w3 50 x.k 3 false (by exact decide_eq_false hc2))
                refine g_or hn ?_
                refine g_mv hn ?_
                refine g_fd hn ?_
                refine g_ld hn ?_
                refine g_ln hn ?_
                refine g_bc hn ?_ (hr := gtrB w3 56 (x.n1 : Nat) 64 false (by exact decide_eq_false hc3))
                refine g_or hn ?_
                refine g_mv hn ?_
                refine g_fd hn ?_
                refine g_ld hn ?_
                refine g_fd hn ?_
                refine g_ld hn ?_
                refine g_c2x enB_Place hn (R := fun v w6 => v = .bool true ∧ w3 = w6) (cP.mono fun _ _ ⟨he, hw⟩ => ⟨_, he, by rw [hc4], hw.symm⟩) ?_
                rintro v w6 ⟨rfl, hw6⟩
                subst hw6
                refine g_nt hn ?_
                refine g_or hn ?_
                refine fl_end ?_
                clear hn af0 l0 af1 l1 af2 l2 af4 l4 cP
                subst ha
                dsimp only [fr, cnd, Act.put, cond_true]
                simp only [List.setIfInBounds_toArray, List.set_cons_zero, List.set_cons_succ]
                have hk1 : 1 ≤ x.k := by omega
                have hk3 : x.k ≤ 3 := by omega
                have hn64 : x.n1 ≤ 64 := by omega
                clear hc1 hc2 hc3
                have l70 : ∀ W : World, (fun W => Blk W q x.cells tAc) W → (Instr.loadAt tAc (.pointer (some ⟨q, 0, none⟩))).run Tryd.prog W = .ok (.agg x.cells) W := fun W h => ac_laB h
                go_upto_region 9 with fail
                refine fh_start (S := (fun W => Blk W q x.cells tAc)) (by kernel_rfl) (hX3) (fun hS => ?_)
                generalize ha : Act.mk _ _ = a0
                have hn : a0.tmps.size = 125 := by rw [← ha]; kernel_rfl
                have h5 : (fr a0 []).eval (.tmp 5) = .pointer (some ⟨s, 0, none⟩) := by rw [← ha]; kernel_rfl
                refine fh_know hn rfl h5 ?_
                clear h5
                have h8 : (fr a0 [(5, true, .pointer (some ⟨s, 0, none⟩))]).eval (.tmp 8) = .pointer (some ⟨q, 0, none⟩) := by rw [← ha]; kernel_rfl
                refine fh_know hn rfl h8 ?_
                clear h8
                refine h_mv 0 hn hS ?_
                refine h_ld 2 hn hS ?_
                have hqd : Blk w3.drew q x.cells tAc := hX3
                have hKd : KB B s w0 w3.drew M left k := ⟨hK3.sl.drew, hK3.st.drew, hK3.armed, hK3.bud, hK3.few, hK3.live, hK3.pend⟩
                refine fh_two (i := 1) (j := 9) (by kernel_rfl) ?_ ?_
                · skip
                  refine one_callx29 (d := 69) (R := fun v w6 => v = .agg rs0 ∧ Below (w3.drew).heap.size (w3.drew) w6) hn rfl (fun hk => call0_isB enB_spinney_spinneyref09_New _ _ _ _ _ _ _ rfl) ((rNew_any w3.drew).mono fun _ _ ⟨he, hb⟩ => ⟨_, he, rfl, hb⟩) ?_ rfl rfl rfl
                  rintro v wn1 ⟨rfl, hbN⟩
                  have hq2 := hqd.keep hbN
                  have hKb3 := hKd.keep hbN
                  refine ⟨hq2, ?_⟩
                  refine fh_two (i := 3) (j := 9) (by kernel_rfl) ?_ ?_
                  · skip
                    have cD := doB_any S B s M x (wn1) hKb3.sl (hE.stk hKb3.st hg) hg (HRx.out _ hKb3.st.bel) (Nat.le_refl _) hk1 hk3 hc4 hn64 (by have := hKb3.pend; omega)
                    refine one_callx29 (d := 71) (R := fun v w6 => ∃ (M' : Sl) (A1 : Option Addr) (n1 c1 : Nat) (A2 : Option Addr) (n2 c2 : Nat) (code k2 : Int), v = .tuple #[.pointer (some ⟨s, 0, none⟩), .agg (rsS A1 n1 c1 A2 n2 c2), .int .i64 code, .int .i64 k2] ∧ SlR B w6 s M' ∧ StK B (wn1) w6 ∧ StpM M M' code) hn rfl (fun hk => call3_is enB_spinney_spinneylaw09_Do _ _ _ _ _ _ _ _ _ _ (.pointer (some ⟨s, 0, none⟩)) (.agg rs0) (.agg x.cells) (lk_at hk (i := 68) rfl (fun _ => rfl) rfl) (lk_at hk (i := 69) rfl (fun _ => rfl) rfl) (lk_at hk (i := 70) rfl (fun _ => rfl) rfl) rfl) (cD.mono fun _ _ ⟨M', A1, n1, c1, A2, n2, c2, code, k2, he, h1, h2, h3⟩ => ⟨_, he, M', A1, n1, c1, A2, n2, c2, code, k2, rfl, h1, h2, h3⟩) ?_ rfl rfl rfl
                    rintro v wn4 ⟨M', A1, n1, c1, A2, n2, c2, code, k2, rfl, hR6, hst, hM⟩
                    have hq5 := stk_blkB hst hq2 (by decide) (by decide)
                    have hS7 := hKb3.st.trans hst
                    clear hst cD
                    refine ⟨hq5, ?_⟩
                    refine h_mv 4 hn hq5 ?_
                    refine h_ex 5 hn hq5 ?_
                    refine h_ex 6 hn hq5 ?_
                    refine h_ex 7 hn hq5 ?_
                    refine h_ex 8 hn hq5 ?_
                    have ba12 := b0 (wn4) (.cells #[.slice none 0 0, .slice none 0 0, .int .i64 0, .bool false] 35)
                    have hqB14 : B ≤ (wn4).heap.size := hR6.size
                    have hX11 := blk_new (wn4) #[.slice none 0 0, .slice none 0 0, .int .i64 0, .bool false] 35
                    have hq9 := hq5.keep ba12
                    have hKb10R := hR6.below ba12
                    have hKb10S := hS7.trans (StK.of_below ba12 hR6.size)
                    refine fh_valx 9 (d := 10) hn rfl (fun hk => x_alRs) hq9 ?_ rfl rfl (by kernel_rfl) rfl
                    generalize (wn4).heap.size = qm13 at hX11 hqB14 ⊢
                    generalize (wn4).alloc (.cells #[.slice none 0 0, .slice none 0 0, .int .i64 0, .bool false] 35) = wn8 at hX11 hq9 hKb10R hKb10S ba12 ⊢
                    refine h_as 10 hn hq9 ?_
                    have hoZ := only_row (wn8) qm13 (rsS A1 n1 c1 A2 n2 c2)
                    have hqZ : (fun W => Blk W q x.cells tAc) ((wn8).setRow qm13 (rsS A1 n1 c1 A2 n2 c2)) := hq9.only hoZ (blk_neB hq9 hX11 (by decide))
                    refine h_st 11 (st_rowS (c := rsS A1 n1 c1 A2 n2 c2) hX11 rfl rfl (rsS_one _ _ _ _ _ _)) hqZ ?_
                    refine h_as 12 hn hqZ ?_
                    refine h_as 13 hn hqZ ?_
                    refine fh_end (by kernel_rfl) ?_
                    clear hn l70
                    subst ha
                    dsimp only [fr, cnd, Act.put, cond_true]
                    simp only [List.setIfInBounds_toArray, List.set_cons_zero, List.set_cons_succ]
                    have hRZ := hKb10R.onlyB hX11 (by decide) (by decide) hoZ
                    have hSZ : StK B w0 ((wn8).setRow qm13 (rsS A1 n1 c1 A2 n2 c2)) := hKb10S.newC hoZ hqB14 hwB
                    generalize (wn8).setRow qm13 (rsS A1 n1 c1 A2 n2 c2) = wz at hRZ hSZ ⊢
                    obtain ⟨hKz, hz1, hz0⟩ := hK3.step hRZ hSZ hM
                    clear hqZ hoZ hRZ hSZ hq9 hX11 hKb10R hKb10S hqB14 hS hM
                    have cD := dead_any B s M' wz hKz.sl
                    clear hK3
                    go_upto_region 10 with fail
                    refine wp_region_lit ?_
                    refine fl_start ?_
                    generalize ha : Act.mk _ _ = a0
                    have hn : a0.tmps.size = 125 := by rw [← ha]; kernel_rfl
                    have h9 : (fr a0 []).eval (.tmp 9) = .pointer (some ⟨s, 0, none⟩) := by rw [← ha]; kernel_rfl
                    refine fl_know hn rfl h9 ?_
                    clear h9
                    refine g_mv hn ?_
                    refine g_as hn ?_
                    refine fl_end ?_
                    clear hn
                    subst ha
                    dsimp only [fr, cnd, Act.put, cond_true]
                    simp only [List.setIfInBounds_toArray, List.set_cons_zero, List.set_cons_succ]
                    by_cases hl0 : 0 < left
                    · obtain ⟨rfl, hdd⟩ := hz1 hl0
                      clear hz1 hz0
                      go_upto_region 11 with fail
                      refine wp_region_lit ?_
                      refine fl_start ?_
                      generalize ha : Act.mk _ _ = a0
                      have hn : a0.tmps.size = 125 := by rw [← ha]; kernel_rfl
                      have h5 : (fr a0 []).eval (.tmp 5) = .pointer (some ⟨s, 0, none⟩) := by rw [← ha]; kernel_rfl
                      refine fl_know hn rfl h5 ?_
                      clear h5
                      have h6 : (fr a0 [(5, true, .pointer (some ⟨s, 0, none⟩))]).eval (.tmp 6) = .int .i64 (left : Nat) := by rw [← ha]; kernel_rfl
                      refine fl_know hn rfl h6 ?_
                      clear h6
                      have h11 : (fr a0 [(6, true, .int .i64 (left : Nat)), (5, true, .pointer (some ⟨s, 0, none⟩))]).eval (.tmp 11) = .int .i64 0 := by rw [← ha]; kernel_rfl
                      refine fl_know hn rfl h11 ?_
                      clear h11
                      refine g_mv hn ?_
                      refine g_bc hn ?_ (hr := er_eql 77 0 0 wz)
                      refine g_mv hn ?_
                      refine g_bc hn ?_ (hr := gtrB wz 79 (left : Nat) 0 true (decide_eq_true (by omega)))
                      refine g_bn hn ?_ (hr := neqBB wz 78 80 true true false rfl)
                      refine g_mv hn ?_
                      refine g_mv hn ?_
                      refine g_bc hn ?_ (hr := er_neq 83 0 0 wz)
                      refine g_mv hn ?_
                      refine g_offA .nilIface hn ?_
                      refine g_offA (.bool false) hn ?_
                      refine g_offA (.bool false) hn ?_
                      refine g_offA .nilIface hn ?_
                      refine g_offA (.bool false) hn ?_
                      refine g_offA (.bool false) hn ?_
                      refine g_offA (.bool false) hn ?_
                      refine g_an hn ?_
                      refine g_or hn ?_
                      refine g_mv hn ?_
                      refine g_mv hn ?_
                      refine g_bc hn ?_ (hr := er_eql 96 0 0 wz)
                      refine g_mv hn ?_
                      refine g_mv hn ?_
                      refine g_c1x enB_spinney_slate_Slate_Dead hn (R := fun v w6 => v = .bool false ∧ wz = w6) (cD.mono fun _ _ ⟨he, hw⟩ => ⟨_, he, by rw [hdd], hw.symm⟩) ?_
                      rintro v w6 ⟨rfl, hw6⟩
                      subst hw6
                      refine g_an hn ?_
                      refine g_or hn ?_
                      refine fl_end ?_
                      clear hn cD
                      subst ha
                      dsimp only [fr, cnd, Act.put, cond_true]
                      simp only [List.setIfInBounds_toArray, List.set_cons_zero, List.set_cons_succ]
                      go_upto_region 13 with fail
                      have q1 : ((do eqGuard .sub 3 (.tmp 103) (.const (.int .i64 1)) (.int .i64 (left : Int)) (.int .i64 1); binOp .sub 3 (.int .i64 (left : Int)) (.int .i64 1)) : Sem Value).run Tryd.prog wz = .ok (.int .i64 ((left - 1 : Nat) : Int)) wz := subB wz 103 left hl0 (by have := hKz.few; omega)
                      refine wp_region_lit ?_
                      refine fl_start ?_
                      generalize ha : Act.mk _ _ = a0
                      have hn : a0.tmps.size = 125 := by rw [← ha]; kernel_rfl
                      have h6 : (fr a0 []).eval (.tmp 6) = .int .i64 (left : Nat) := by rw [← ha]; kernel_rfl
                      refine fl_know hn rfl h6 ?_
                      clear h6
                      refine g_mv hn ?_
                      refine g_bc hn ?_ (hr := q1)
                      refine g_w (v := .int .i64 ((left - 1 : Nat) : Int)) (w2 := wz) hn (fun hk => x_maxB (lk_at hk (i := 104) rfl (fun _ => rfl) rfl)) ?_
                      refine g_as hn ?_
                      refine fl_end ?_
                      clear hn q1
                      subst ha
                      dsimp only [fr, cnd, Act.put, cond_true]
                      simp only [List.setIfInBounds_toArray, List.set_cons_zero, List.set_cons_succ]
                      go_wp2_with fail
                      refine ⟨?_, ?_⟩
                      · first
                        | exact ⟨k + 1, left - 1, M', by omega, by go_num, rfl, rfl, hKz⟩
                        | repeat apply Exists.intro
                          refine ⟨?_, rfl⟩
                          exact ⟨k + 1, left - 1, M', by omega, by go_num, rfl, rfl, hKz⟩
                        | repeat apply Exists.intro
                          refine ⟨?_, rfl, rfl, rfl⟩
                          exact ⟨k + 1, left - 1, M', by omega, by go_num, rfl, rfl, hKz⟩
                      · simp [intOf]; omega
                    · have hl00 : left = 0 := by omega
                      subst hl00
                      obtain ⟨rfl, hdd⟩ := hz0 rfl
                      clear hz1 hz0 hl0
                      go_upto_region 11 with fail
                      refine wp_region_lit ?_
                      refine fl_start ?_
                      generalize ha : Act.mk _ _ = a0
                      have hn : a0.tmps.size = 125 := by rw [← ha]; kernel_rfl
                      have h5 : (fr a0 []).eval (.tmp 5) = .pointer (some ⟨s, 0, none⟩) := by rw [← ha]; kernel_rfl
                      refine fl_know hn rfl h5 ?_
                      clear h5
                      have h6 : (fr a0 [(5, true, .pointer (some ⟨s, 0, none⟩))]).eval (.tmp 6) = .int .i64 ((0 : Nat) : Int) := by rw [← ha]; kernel_rfl
                      refine fl_know hn rfl h6 ?_
                      clear h6
                      have h11 : (fr a0 [(6, true, .int .i64 ((0 : Nat) : Int)), (5, true, .pointer (some ⟨s, 0, none⟩))]).eval (.tmp 11) = .int .i64 7 := by rw [← ha]; kernel_rfl
                      refine fl_know hn rfl h11 ?_
                      clear h11
                      refine g_mv hn ?_
                      refine g_bc hn ?_ (hr := er_eql 77 7 0 wz)
                      refine g_mv hn ?_
                      refine g_bc hn ?_ (hr := gtrB wz 79 ((0 : Nat) : Int) 0 false rfl)
                      refine g_bn hn ?_ (hr := neqBB wz 78 80 false false false rfl)
                      refine g_mv hn ?_
                      refine g_mv hn ?_
                      refine g_bc hn ?_ (hr := er_neq 83 7 0 wz)
                      refine g_mv hn ?_
                      refine g_mv hn ?_
                      refine g_bc hn ?_ (hr := er_neq 86 7 7 wz)
                      refine g_mv hn ?_
                      refine g_mv hn ?_
                      refine g_c1x enB_spinney_slate_Slate_Dead hn (R := fun v w6 => v = .bool true ∧ wz = w6) (cD.mono fun _ _ ⟨he, hw⟩ => ⟨_, he, by rw [hdd], hw.symm⟩) ?_
                      rintro v w6 ⟨rfl, hw6⟩
                      subst hw6
                      refine g_nt hn ?_
                      refine g_or hn ?_
                      refine g_an hn ?_
                      refine g_or hn ?_
                      refine g_mv hn ?_
                      refine g_mv hn ?_
                      refine g_bc hn ?_ (hr := er_eql 96 7 0 wz)
                      refine g_mv hn ?_
                      refine g_offA .nilIface hn ?_
                      refine g_offA (.bool false) hn ?_
                      refine g_an hn ?_
                      refine g_or hn ?_
                      refine fl_end ?_
                      clear hn cD
                      subst ha
                      dsimp only [fr, cnd, Act.put, cond_true]
                      simp only [List.setIfInBounds_toArray, List.set_cons_zero, List.set_cons_succ]
                      go_upto_region 13 with fail
                      have q1 : ((do eqGuard .sub 3 (.tmp 103) (.const (.int .i64 1)) (.int .i64 ((0 : Nat) : Int)) (.int .i64 1); binOp .sub 3 (.int .i64 ((0 : Nat) : Int)) (.int .i64 1)) : Sem Value).run Tryd.prog wz = .ok (.int .i64 (-1)) wz := by kernel_rfl
                      refine wp_region_lit ?_
                      refine fl_start ?_
                      generalize ha : Act.mk _ _ = a0
                      have hn : a0.tmps.size = 125 := by rw [← ha]; kernel_rfl
                      have h6 : (fr a0 []).eval (.tmp 6) = .int .i64 ((0 : Nat) : Int) := by rw [← ha]; kernel_rfl
                      refine fl_know hn rfl h6 ?_
                      clear h6
                      refine g_mv hn ?_
                      refine g_bc hn ?_ (hr := q1)
                      refine g_w (v := .int .i64 ((0 - 1 : Nat) : Int)) (w2 := wz) hn (fun hk => x_maxC (lk_at hk (i := 104) rfl (fun _ => rfl) rfl)) ?_
                      refine g_as hn ?_
                      refine fl_end ?_
                      clear hn q1
                      subst ha
                      dsimp only [fr, cnd, Act.put, cond_true]
                      simp only [List.setIfInBounds_toArray, List.set_cons_zero, List.set_cons_succ]
                      go_wp2_with fail
                      refine ⟨?_, ?_⟩
                      · first
                        | exact ⟨k + 1, 0 - 1, M', by omega, by go_num, rfl, rfl, hKz⟩
                        | repeat apply Exists.intro
                          refine ⟨?_, rfl⟩
                          exact ⟨k + 1, 0 - 1, M', by omega, by go_num, rfl, rfl, hKz⟩
                        | repeat apply Exists.intro
                          refine ⟨?_, rfl, rfl, rfl⟩
                          exact ⟨k + 1, 0 - 1, M', by omega, by go_num, rfl, rfl, hKz⟩
                      · simp [intOf]; omega
                  · skip
                    have ba19 := b0 (wn1) (.cells #[.slice none 0 0, .slice none 0 0, .int .i64 0, .bool false] 35)
                    have hqB21 : B ≤ (wn1).heap.size := hKb3.sz
                    have hX18 := blk_new (wn1) #[.slice none 0 0, .slice none 0 0, .int .i64 0, .bool false] 35
                    have hq16 := hq2.keep ba19
                    have hKb17 := hKb3.keep ba19
                    refine one_valx (d := 10) hn rfl (fun hk => x_alRs) hq16 ?_ rfl rfl rfl
                    generalize (wn1).heap.size = qm20 at hX18 hqB21 ⊢
                    generalize (wn1).alloc (.cells #[.slice none 0 0, .slice none 0 0, .int .i64 0, .bool false] 35) = wn15 at hX18 hq16 hKb17 ba19 ⊢
                    have cD := doB_any S B s M x (wn15) hKb17.sl (hE.stk hKb17.st hg) hg (HRx.out _ hKb17.st.bel) (Nat.le_refl _) hk1 hk3 hc4 hn64 (by have := hKb17.pend; omega)
                    refine fh_callx 3 (d := 71) (R := fun v w6 => ∃ (M' : Sl) (A1 : Option Addr) (n1 c1 : Nat) (A2 : Option Addr) (n2 c2 : Nat) (code k2 : Int), v = .tuple #[.pointer (some ⟨s, 0, none⟩), .agg (rsS A1 n1 c1 A2 n2 c2), .int .i64 code, .int .i64 k2] ∧ SlR B w6 s M' ∧ StK B (wn15) w6 ∧ StpM M M' code) hn rfl (fun hk => call3_is enB_spinney_spinneylaw09_Do _ _ _ _ _ _ _ _ _ _ (.pointer (some ⟨s, 0, none⟩)) (.agg rs0) (.agg x.cells) (lk_at hk (i := 68) rfl (fun _ => rfl) rfl) (lk_at hk (i := 69) rfl (fun _ => rfl) rfl) (lk_at hk (i := 70) rfl (fun _ => rfl) rfl) rfl) (cD.mono fun _ _ ⟨M', A1, n1, c1, A2, n2, c2, code, k2, he, h1, h2, h3⟩ => ⟨_, he, M', A1, n1, c1, A2, n2, c2, code, k2, rfl, h1, h2, h3⟩) ?_ rfl rfl (by kernel_rfl) rfl
                    rintro v wn22 ⟨M', A1, n1, c1, A2, n2, c2, code, k2, rfl, hR24, hst, hM⟩
                    have hq23 := stk_blkB hst hq16 (by decide) (by decide)
                    have hS25 := hKb17.st.trans hst
                    have hX18' := stk_blkB hst hX18 (by decide) (by decide)
                    clear hst cD
                    refine ⟨hq23, ?_⟩
                    refine h_mv 4 hn hq23 ?_
                    refine h_ex 5 hn hq23 ?_
                    refine h_ex 6 hn hq23 ?_
                    refine h_ex 7 hn hq23 ?_
                    refine h_ex 8 hn hq23 ?_
                    refine h_as 10 hn hq23 ?_
                    have hoZ := only_row (wn22) qm20 (rsS A1 n1 c1 A2 n2 c2)
                    have hqZ : (fun W => Blk W q x.cells tAc) ((wn22).setRow qm20 (rsS A1 n1 c1 A2 n2 c2)) := hq23.only hoZ (blk_neB hq23 hX18' (by decide))
                    refine h_st 11 (st_rowS (c := rsS A1 n1 c1 A2 n2 c2) hX18' rfl rfl (rsS_one _ _ _ _ _ _)) hqZ ?_
                    refine h_as 12 hn hqZ ?_
                    refine h_as 13 hn hqZ ?_
                    refine fh_end (by kernel_rfl) ?_
                    clear hn l70
                    subst ha
                    dsimp only [fr, cnd, Act.put, cond_true]
                    simp only [List.setIfInBounds_toArray, List.set_cons_zero, List.set_cons_succ]
                    have hRZ := hR24.onlyB hX18' (by decide) (by decide) hoZ
                    have hSZ : StK B w0 ((wn22).setRow qm20 (rsS A1 n1 c1 A2 n2 c2)) := hS25.newC hoZ hqB21 hwB
                    generalize (wn22).setRow qm20 (rsS A1 n1 c1 A2 n2 c2) = wz at hRZ hSZ ⊢
                    obtain ⟨hKz, hz1, hz0⟩ := hK3.step hRZ hSZ hM
                    clear hqZ hoZ hRZ hSZ hq23 hX18' hR24 hS25 hqB21 hS hM
                    have cD := dead_any B s M' wz hKz.sl
                    clear hK3
                    go_upto_region 10 with fail
                    refine wp_region_lit ?_
                    refine fl_start ?_
                    generalize ha : Act.mk _ _ = a0
                    have hn : a0.tmps.size = 125 := by rw [← ha]; kernel_rfl
                    have h9 : (fr a0 []).eval (.tmp 9) = .pointer (some ⟨s, 0, none⟩) := by rw [← ha]; kernel_rfl
                    refine fl_know hn rfl h9 ?_
                    clear h9
                    refine g_mv hn ?_
                    refine g_as hn ?_
                    refine fl_end ?_
                    clear hn
                    subst ha
                    dsimp only [fr, cnd, Act.put, cond_true]
                    simp only [List.setIfInBounds_toArray, List.set_cons_zero, List.set_cons_succ]
                    by_cases hl0 : 0 < left
                    · obtain ⟨rfl, hdd⟩ := hz1 hl0
                      clear hz1 hz0
                      go_upto_region 11 with fail
                      refine wp_region_lit ?_
                      refine fl_start ?_
                      generalize ha : Act.mk _ _ = a0
                      have hn : a0.tmps.size = 125 := by rw [← ha]; kernel_rfl
                      have h5 : (fr a0 []).eval (.tmp 5) = .pointer (some ⟨s, 0, none⟩) := by rw [← ha]; kernel_rfl
                      refine fl_know hn rfl h5 ?_
                      clear h5
                      have h6 : (fr a0 [(5, true, .pointer (some ⟨s, 0, none⟩))]).eval (.tmp 6) = .int .i64 (left : Nat) := by rw [← ha]; kernel_rfl
                      refine fl_know hn rfl h6 ?_
                      clear h6
                      have h11 : (fr a0 [(6, true, .int .i64 (left : Nat)), (5, true, .pointer (some ⟨s, 0, none⟩))]).eval (.tmp 11) = .int .i64 0 := by rw [← ha]; kernel_rfl
                      refine fl_know hn rfl h11 ?_
                      clear h11
                      refine g_mv hn ?_
                      refine g_bc hn ?_ (hr := er_eql 77 0 0 wz)
                      refine g_mv hn ?_
                      refine g_bc hn ?_ (hr := gtrB wz 79 (left : Nat) 0 true (decide_eq_true (by omega)))
                      refine g_bn hn ?_ (hr := neqBB wz 78 80 true true false rfl)
                      refine g_mv hn ?_
                      refine g_mv hn ?_
                      refine g_bc hn ?_ (hr := er_neq 83 0 0 wz)
                      refine g_mv hn ?_
                      refine g_offA .nilIface hn ?_
                      refine g_offA (.bool false) hn ?_
                      refine g_offA (.bool false) hn ?_
                      refine g_offA .nilIface hn ?_
                      refine g_offA (.bool false) hn ?_
                      refine g_offA (.bool false) hn ?_
                      refine g_offA (.bool false) hn ?_
                      refine g_an hn ?_
                      refine g_or hn ?_
                      refine g_mv hn ?_
                      refine g_mv hn ?_
                      refine g_bc hn ?_ (hr := er_eql 96 0 0 wz)
                      refine g_mv hn ?_
                      refine g_mv hn ?_
                      refine g_c1x enB_spinney_slate_Slate_Dead hn (R := fun v w6 => v = .bool false ∧ wz = w6) (cD.mono fun _ _ ⟨he, hw⟩ => ⟨_, he, by rw [hdd], hw.symm⟩) ?_
                      rintro v w6 ⟨rfl, hw6⟩
                      subst hw6
                      refine g_an hn ?_
                      refine g_or hn ?_
                      refine fl_end ?_
                      clear hn cD
                      subst ha
                      dsimp only [fr, cnd, Act.put, cond_true]
                      simp only [List.setIfInBounds_toArray, List.set_cons_zero, List.set_cons_succ]
                      go_upto_region 13 with fail
                      have q1 : ((do eqGuard .sub 3 (.tmp 103) (.const (.int .i64 1)) (.int .i64 (left : Int)) (.int .i64 1); binOp .sub 3 (.int .i64 (left : Int)) (.int .i64 1)) : Sem Value).run Tryd.prog wz = .ok (.int .i64 ((left - 1 : Nat) : Int)) wz := subB wz 103 left hl0 (by have := hKz.few; omega)
                      refine wp_region_lit ?_
                      refine fl_start ?_
                      generalize ha : Act.mk _ _ = a0
                      have hn : a0.tmps.size = 125 := by rw [← ha]; kernel_rfl
                      have h6 : (fr a0 []).eval (.tmp 6) = .int .i64 (left : Nat) := by rw [← ha]; kernel_rfl
                      refine fl_know hn rfl h6 ?_
                      clear h6
                      refine g_mv hn ?_
                      refine g_bc hn ?_ (hr := q1)
                      refine g_w (v := .int .i64 ((left - 1 : Nat) : Int)) (w2 := wz) hn (fun hk => x_maxB (lk_at hk (i := 104) rfl (fun _ => rfl) rfl)) ?_
                      refine g_as hn ?_
                      refine fl_end ?_
                      clear hn q1
                      subst ha
                      dsimp only [fr, cnd, Act.put, cond_true]
                      simp only [List.setIfInBounds_toArray, List.set_cons_zero, List.set_cons_succ]
                      go_wp2_with fail
                      refine ⟨?_, ?_⟩
                      · first
                        | exact ⟨k + 1, left - 1, M', by omega, by go_num, rfl, rfl, hKz⟩
                        | repeat apply Exists.intro
                          refine ⟨?_, rfl⟩
                          exact ⟨k + 1, left - 1, M', by omega, by go_num, rfl, rfl, hKz⟩
                        | repeat apply Exists.intro
                          refine ⟨?_, rfl, rfl, rfl⟩
                          exact ⟨k + 1, left - 1, M', by omega, by go_num, rfl, rfl, hKz⟩
                      · simp [intOf]; omega
                    · have hl00 : left = 0 := by omega
                      subst hl00
                      obtain ⟨rfl, hdd⟩ := hz0 rfl
                      clear hz1 hz0 hl0
                      go_upto_region 11 with fail
                      refine wp_region_lit ?_
                      refine fl_start ?_
                      generalize ha : Act.mk _ _ = a0
                      have hn : a0.tmps.size = 125 := by rw [← ha]; kernel_rfl
                      have h5 : (fr a0 []).eval (.tmp 5) = .pointer (some ⟨s, 0, none⟩) := by rw [← ha]; kernel_rfl
                      refine fl_know hn rfl h5 ?_
                      clear h5
                      have h6 : (fr a0 [(5, true, .pointer (some ⟨s, 0, none⟩))]).eval (.tmp 6) = .int .i64 ((0 : Nat) : Int) := by rw [← ha]; kernel_rfl
                      refine fl_know hn rfl h6 ?_
                      clear h6
                      have h11 : (fr a0 [(6, true, .int .i64 ((0 : Nat) : Int)), (5, true, .pointer (some ⟨s, 0, none⟩))]).eval (.tmp 11) = .int .i64 7 := by rw [← ha]; kernel_rfl
                      refine fl_know hn rfl h11 ?_
                      clear h11
                      refine g_mv hn ?_
                      refine g_bc hn ?_ (hr := er_eql 77 7 0 wz)
                      refine g_mv hn ?_
                      refine g_bc hn ?_ (hr := gtrB wz 79 ((0 : Nat) : Int) 0 false rfl)
                      refine g_bn hn ?_ (hr := neqBB wz 78 80 false false false rfl)
                      refine g_mv hn ?_
                      refine g_mv hn ?_
                      refine g_bc hn ?_ (hr := er_neq 83 7 0 wz)
                      refine g_mv hn ?_
                      refine g_mv hn ?_
                      refine g_bc hn ?_ (hr := er_neq 86 7 7 wz)
                      refine g_mv hn ?_
                      refine g_mv hn ?_
                      refine g_c1x enB_spinney_slate_Slate_Dead hn (R := fun v w6 => v = .bool true ∧ wz = w6) (cD.mono fun _ _ ⟨he, hw⟩ => ⟨_, he, by rw [hdd], hw.symm⟩) ?_
                      rintro v w6 ⟨rfl, hw6⟩
                      subst hw6
                      refine g_nt hn ?_
                      refine g_or hn ?_
                      refine g_an hn ?_
                      refine g_or hn ?_
                      refine g_mv hn ?_
                      refine g_mv hn ?_
                      refine g_bc hn ?_ (hr := er_eql 96 7 0 wz)
                      refine g_mv hn ?_
                      refine g_offA .nilIface hn ?_
                      refine g_offA (.bool false) hn ?_
                      refine g_an hn ?_
                      refine g_or hn ?_
                      refine fl_end ?_
                      clear hn cD
                      subst ha
                      dsimp only [fr, cnd, Act.put, cond_true]
                      simp only [List.setIfInBounds_toArray, List.set_cons_zero, List.set_cons_succ]
                      go_upto_region 13 with fail
                      have q1 : ((do eqGuard .sub 3 (.tmp 103) (.const (.int .i64 1)) (.int .i64 ((0 : Nat) : Int)) (.int .i64 1); binOp .sub 3 (.int .i64 ((0 : Nat) : Int)) (.int .i64 1)) : Sem Value).run Tryd.prog wz = .ok (.int .i64 (-1)) wz := by kernel_rfl
                      refine wp_region_lit ?_
                      refine fl_start ?_
                      generalize ha : Act.mk _ _ = a0
                      have hn : a0.tmps.size = 125 := by rw [← ha]; kernel_rfl
                      have h6 : (fr a0 []).eval (.tmp 6) = .int .i64 ((0 : Nat) : Int) := by rw [← ha]; kernel_rfl
                      refine fl_know hn rfl h6 ?_
                      clear h6
                      refine g_mv hn ?_
                      refine g_bc hn ?_ (hr := q1)
                      refine g_w (v := .int .i64 ((0 - 1 : Nat) : Int)) (w2 := wz) hn (fun hk => x_maxC (lk_at hk (i := 104) rfl (fun _ => rfl) rfl)) ?_
                      refine g_as hn ?_
                      refine fl_end ?_
                      clear hn q1
                      subst ha
                      dsimp only [fr, cnd, Act.put, cond_true]
                      simp only [List.setIfInBounds_toArray, List.set_cons_zero, List.set_cons_succ]
                      go_wp2_with fail
                      refine ⟨?_, ?_⟩
                      · first
                        | exact ⟨k + 1, 0 - 1, M', by omega, by go_num, rfl, rfl, hKz⟩
                        | repeat apply Exists.intro
                          refine ⟨?_, rfl⟩
                          exact ⟨k + 1, 0 - 1, M', by omega, by go_num, rfl, rfl, hKz⟩
                        | repeat apply Exists.intro
                          refine ⟨?_, rfl, rfl, rfl⟩
                          exact ⟨k + 1, 0 - 1, M', by omega, by go_num, rfl, rfl, hKz⟩
                      · simp [intOf]; omega
                · skip
                  have ba30 := b0 (w3.drew) (.cells #[.slice none 0 0, .slice none 0 0, .int .i64 0, .bool false] 35)
                  have hqB32 : B ≤ (w3.drew).heap.size := hKd.sz
                  have hX29 := blk_new (w3.drew) #[.slice none 0 0, .slice none 0 0, .int .i64 0, .bool false] 35
                  have hq27 := hqd.keep ba30
                  have hKb28 := hKd.keep ba30
                  refine one_valx (d := 10) hn rfl (fun hk => x_alRs) hq27 ?_ rfl rfl rfl
                  generalize (w3.drew).heap.size = qm31 at hX29 hqB32 ⊢
                  generalize (w3.drew).alloc (.cells #[.slice none 0 0, .slice none 0 0, .int .i64 0, .bool false] 35) = wn26 at hX29 hq27 hKb28 ba30 ⊢
                  refine fh_callx 1 (d := 69) (R := fun v w6 => v = .agg rs0 ∧ Below (wn26).heap.size (wn26) w6) hn rfl (fun hk => call0_isB enB_spinney_spinneyref09_New _ _ _ _ _ _ _ rfl) ((rNew_any wn26).mono fun _ _ ⟨he, hb⟩ => ⟨_, he, rfl, hb⟩) ?_ rfl rfl (by kernel_rfl) rfl
                  rintro v wn33 ⟨rfl, hbN⟩
                  have hq34 := hq27.keep hbN
                  have hKb35 := hKb28.keep hbN
                  have hX29' := hX29.keep hbN
                  refine ⟨hq34, ?_⟩
                  have cD := doB_any S B s M x (wn33) hKb35.sl (hE.stk hKb35.st hg) hg (HRx.out _ hKb35.st.bel) (Nat.le_refl _) hk1 hk3 hc4 hn64 (by have := hKb35.pend; omega)
                  refine fh_callx 3 (d := 71) (R := fun v w6 => ∃ (M' : Sl) (A1 : Option Addr) (n1 c1 : Nat) (A2 : Option Addr) (n2 c2 : Nat) (code k2 : Int), v = .tuple #[.pointer (some ⟨s, 0, none⟩), .agg (rsS A1 n1 c1 A2 n2 c2), .int .i64 code, .int .i64 k2] ∧ SlR B w6 s M' ∧ StK B (wn33) w6 ∧ StpM M M' code) hn rfl (fun hk => call3_is enB_spinney_spinneylaw09_Do _ _ _ _ _ _ _ _ _ _ (.pointer (some ⟨s, 0, none⟩)) (.agg rs0) (.agg x.cells) (lk_at hk (i := 68) rfl (fun _ => rfl) rfl) (lk_at hk (i := 69) rfl (fun _ => rfl) rfl) (lk_at hk (i := 70) rfl (fun _ => rfl) rfl) rfl) (cD.mono fun _ _ ⟨M', A1, n1, c1, A2, n2, c2, code, k2, he, h1, h2, h3⟩ => ⟨_, he, M', A1, n1, c1, A2, n2, c2, code, k2, rfl, h1, h2, h3⟩) ?_ rfl rfl (by kernel_rfl) rfl
                  rintro v wn36 ⟨M', A1, n1, c1, A2, n2, c2, code, k2, rfl, hR38, hst, hM⟩
                  have hq37 := stk_blkB hst hq34 (by decide) (by decide)
                  have hS39 := hKb35.st.trans hst
                  have hX29'' := stk_blkB hst hX29' (by decide) (by decide)
                  clear hst cD
                  refine ⟨hq37, ?_⟩
                  refine h_mv 4 hn hq37 ?_
                  refine h_ex 5 hn hq37 ?_
                  refine h_ex 6 hn hq37 ?_
                  refine h_ex 7 hn hq37 ?_
                  refine h_ex 8 hn hq37 ?_
                  refine h_as 10 hn hq37 ?_
                  have hoZ := only_row (wn36) qm31 (rsS A1 n1 c1 A2 n2 c2)
                  have hqZ : (fun W => Blk W q x.cells tAc) ((wn36).setRow qm31 (rsS A1 n1 c1 A2 n2 c2)) := hq37.only hoZ (blk_neB hq37 hX29'' (by decide))
                  refine h_st 11 (st_rowS (c := rsS A1 n1 c1 A2 n2 c2) hX29'' rfl rfl (rsS_one _ _ _ _ _ _)) hqZ ?_
                  refine h_as 12 hn hqZ ?_
                  refine h_as 13 hn hqZ ?_
                  refine fh_end (by kernel_rfl) ?_
                  clear hn l70
                  subst ha
                  dsimp only [fr, cnd, Act.put, cond_true]
                  simp only [List.setIfInBounds_toArray, List.set_cons_zero, List.set_cons_succ]
                  have hRZ := hR38.onlyB hX29'' (by decide) (by decide) hoZ
                  have hSZ : StK B w0 ((wn36).setRow qm31 (rsS A1 n1 c1 A2 n2 c2)) := hS39.newC hoZ hqB32 hwB
                  generalize (wn36).setRow qm31 (rsS A1 n1 c1 A2 n2 c2) = wz at hRZ hSZ ⊢
                  obtain ⟨hKz, hz1, hz0⟩ := hK3.step hRZ hSZ hM
                  clear hqZ hoZ hRZ hSZ hq37 hX29'' hR38 hS39 hqB32 hS hM
                  have cD := dead_any B s M' wz hKz.sl
                  clear hK3
                  go_upto_region 10 with fail
                  refine wp_region_lit ?_
                  refine fl_start ?_
                  generalize ha : Act.mk _ _ = a0
                  have hn : a0.tmps.size = 125 := by rw [← ha]; kernel_rfl
                  have h9 : (fr a0 []).eval (.tmp 9) = .pointer (some ⟨s, 0, none⟩) := by rw [← ha]; kernel_rfl
                  refine fl_know hn rfl h9 ?_
                  clear h9
                  refine g_mv hn ?_
                  refine g_as hn ?_
                  refine fl_end ?_
                  clear hn
                  subst ha
                  dsimp only [fr, cnd, Act.put, cond_true]
                  simp only [List.setIfInBounds_toArray, List.set_cons_zero, List.set_cons_succ]
                  by_cases hl0 : 0 < left
                  · obtain ⟨rfl, hdd⟩ := hz1 hl0
                    clear hz1 hz0
                    go_upto_region 11 with fail
                    refine wp_region_lit ?_
                    refine fl_start ?_
                    generalize ha : Act.mk _ _ = a0
                    have hn : a0.tmps.size = 125 := by rw [← ha]; kernel_rfl
                    have h5 : (fr a0 []).eval (.tmp 5) = .pointer (some ⟨s, 0, none⟩) := by rw [← ha]; kernel_rfl
                    refine fl_know hn rfl h5 ?_
                    clear h5
                    have h6 : (fr a0 [(5, true, .pointer (some ⟨s, 0, none⟩))]).eval (.tmp 6) = .int .i64 (left : Nat) := by rw [← ha]; kernel_rfl
                    refine fl_know hn rfl h6 ?_
                    clear h6
                    have h11 : (fr a0 [(6, true, .int .i64 (left : Nat)), (5, true, .pointer (some ⟨s, 0, none⟩))]).eval (.tmp 11) = .int .i64 0 := by rw [← ha]; kernel_rfl
                    refine fl_know hn rfl h11 ?_
                    clear h11
                    refine g_mv hn ?_
                    refine g_bc hn ?_ (hr := er_eql 77 0 0 wz)
                    refine g_mv hn ?_
                    refine g_bc hn ?_ (hr := gtrB wz 79 (left : Nat) 0 true (decide_eq_true (by omega)))
                    refine g_bn hn ?_ (hr := neqBB wz 78 80 true true false rfl)
                    refine g_mv hn ?_
                    refine g_mv hn ?_
                    refine g_bc hn ?_ (hr := er_neq 83 0 0 wz)
                    refine g_mv hn ?_
                    refine g_offA .nilIface hn ?_
                    refine g_offA (.bool false) hn ?_
                    refine g_offA (.bool false) hn ?_
                    refine g_offA .nilIface hn ?_
                    refine g_offA (.bool false) hn ?_
                    refine g_offA (.bool false) hn ?_
                    refine g_offA (.bool false) hn ?_
                    refine g_an hn ?_
                    refine g_or hn ?_
                    refine g_mv hn ?_
                    refine g_mv hn ?_
                    refine g_bc hn ?_ (hr := er_eql 96 0 0 wz)
                    refine g_mv hn ?_
                    refine g_mv hn ?_
                    refine g_c1x enB_spinney_slate_Slate_Dead hn (R := fun v w6 => v = .bool false ∧ wz = w6) (cD.mono fun _ _ ⟨he, hw⟩ => ⟨_, he, by rw [hdd], hw.symm⟩) ?_
                    rintro v w6 ⟨rfl, hw6⟩
                    subst hw6
                    refine g_an hn ?_
                    refine g_or hn ?_
                    refine fl_end ?_
                    clear hn cD
                    subst ha
                    dsimp only [fr, cnd, Act.put, cond_true]
                    simp only [List.setIfInBounds_toArray, List.set_cons_zero, List.set_cons_succ]
                    go_upto_region 13 with fail
                    have q1 : ((do eqGuard .sub 3 (.tmp 103) (.const (.int .i64 1)) (.int .i64 (left : Int)) (.int .i64 1); binOp .sub 3 (.int .i64 (left : Int)) (.int .i64 1)) : Sem Value).run Tryd.prog wz = .ok (.int .i64 ((left - 1 : Nat) : Int)) wz := subB wz 103 left hl0 (by have := hKz.few; omega)
                    refine wp_region_lit ?_
                    refine fl_start ?_
                    generalize ha : Act.mk _ _ = a0
                    have hn : a0.tmps.size = 125 := by rw [← ha]; kernel_rfl
                    have h6 : (fr a0 []).eval (.tmp 6) = .int .i64 (left : Nat) := by rw [← ha]; kernel_rfl
                    refine fl_know hn rfl h6 ?_
                    clear h6
                    refine g_mv hn ?_
                    refine g_bc hn ?_ (hr := q1)
                    refine g_w (v := .int .i64 ((left - 1 : Nat) : Int)) (w2 := wz) hn (fun hk => x_maxB (lk_at hk (i := 104) rfl (fun _ => rfl) rfl)) ?_
                    refine g_as hn ?_
                    refine fl_end ?_
                    clear hn q1
                    subst ha
                    dsimp only [fr, cnd, Act.put, cond_true]
                    simp only [List.setIfInBounds_toArray, List.set_cons_zero, List.set_cons_succ]
                    go_wp2_with fail
                    refine ⟨?_, ?_⟩
                    · first
                      | exact ⟨k + 1, left - 1, M', by omega, by go_num, rfl, rfl, hKz⟩
                      | repeat apply Exists.intro
                        refine ⟨?_, rfl⟩
                        exact ⟨k + 1, left - 1, M', by omega, by go_num, rfl, rfl, hKz⟩
                      | repeat apply Exists.intro
                        refine ⟨?_, rfl, rfl, rfl⟩
                        exact ⟨k + 1, left - 1, M', by omega, by go_num, rfl, rfl, hKz⟩
                    · simp [intOf]; omega
                  · have hl00 : left = 0 := by omega
                    subst hl00
                    obtain ⟨rfl, hdd⟩ := hz0 rfl
                    clear hz1 hz0 hl0
                    go_upto_region 11 with fail
                    refine wp_region_lit ?_
                    refine fl_start ?_
                    generalize ha : Act.mk _ _ = a0
                    have hn : a0.tmps.size = 125 := by rw [← ha]; kernel_rfl
                    have h5 : (fr a0 []).eval (.tmp 5) = .pointer (some ⟨s, 0, none⟩) := by rw [← ha]; kernel_rfl
                    refine fl_know hn rfl h5 ?_
                    clear h5
                    have h6 : (fr a0 [(5, true, .pointer (some ⟨s, 0, none⟩))]).eval (.tmp 6) = .int .i64 ((0 : Nat) : Int) := by rw [← ha]; kernel_rfl
                    refine fl_know hn rfl h6 ?_
                    clear h6
                    have h11 : (fr a0 [(6, true, .int .i64 ((0 : Nat) : Int)), (5, true, .pointer (some ⟨s, 0, none⟩))]).eval (.tmp 11) = .int .i64 7 := by rw [← ha]; kernel_rfl
                    refine fl_know hn rfl h11 ?_
                    clear h11
                    refine g_mv hn ?_
                    refine g_bc hn ?_ (hr := er_eql 77 7 0 wz)
                    refine g_mv hn ?_
                    refine g_bc hn ?_ (hr := gtrB wz 79 ((0 : Nat) : Int) 0 false rfl)
                    refine g_bn hn ?_ (hr := neqBB wz 78 80 false false false rfl)
                    refine g_mv hn ?_
                    refine g_mv hn ?_
                    refine g_bc hn ?_ (hr := er_neq 83 7 0 wz)
                    refine g_mv hn ?_
                    refine g_mv hn ?_
                    refine g_bc hn ?_ (hr := er_neq 86 7 7 wz)
                    refine g_mv hn ?_
                    refine g_mv hn ?_
                    refine g_c1x enB_spinney_slate_Slate_Dead hn (R := fun v w6 => v = .bool true ∧ wz = w6) (cD.mono fun _ _ ⟨he, hw⟩ => ⟨_, he, by rw [hdd], hw.symm⟩) ?_
                    rintro v w6 ⟨rfl, hw6⟩
                    subst hw6
                    refine g_nt hn ?_
                    refine g_or hn ?_
                    refine g_an hn ?_
                    refine g_or hn ?_
                    refine g_mv hn ?_
                    refine g_mv hn ?_
                    refine g_bc hn ?_ (hr := er_eql 96 7 0 wz)
                    refine g_mv hn ?_
                    refine g_offA .nilIface hn ?_
                    refine g_offA (.bool false) hn ?_
                    refine g_an hn ?_
                    refine g_or hn ?_
                    refine fl_end ?_
                    clear hn cD
                    subst ha
                    dsimp only [fr, cnd, Act.put, cond_true]
                    simp only [List.setIfInBounds_toArray, List.set_cons_zero, List.set_cons_succ]
                    go_upto_region 13 with fail
                    have q1 : ((do eqGuard .sub 3 (.tmp 103) (.const (.int .i64 1)) (.int .i64 ((0 : Nat) : Int)) (.int .i64 1); binOp .sub 3 (.int .i64 ((0 : Nat) : Int)) (.int .i64 1)) : Sem Value).run Tryd.prog wz = .ok (.int .i64 (-1)) wz := by kernel_rfl
                    refine wp_region_lit ?_
                    refine fl_start ?_
                    generalize ha : Act.mk _ _ = a0
                    have hn : a0.tmps.size = 125 := by rw [← ha]; kernel_rfl
                    have h6 : (fr a0 []).eval (.tmp 6) = .int .i64 ((0 : Nat) : Int) := by rw [← ha]; kernel_rfl
                    refine fl_know hn rfl h6 ?_
                    clear h6
                    refine g_mv hn ?_
                    refine g_bc hn ?_ (hr := q1)
                    refine g_w (v := .int .i64 ((0 - 1 : Nat) : Int)) (w2 := wz) hn (fun hk => x_maxC (lk_at hk (i := 104) rfl (fun _ => rfl) rfl)) ?_
                    refine g_as hn ?_
                    refine fl_end ?_
                    clear hn q1
                    subst ha
                    dsimp only [fr, cnd, Act.put, cond_true]
                    simp only [List.setIfInBounds_toArray, List.set_cons_zero, List.set_cons_succ]
                    go_wp2_with fail
                    refine ⟨?_, ?_⟩
                    · first
                      | exact ⟨k + 1, 0 - 1, M', by omega, by go_num, rfl, rfl, hKz⟩
                      | repeat apply Exists.intro
                        refine ⟨?_, rfl⟩
                        exact ⟨k + 1, 0 - 1, M', by omega, by go_num, rfl, rfl, hKz⟩
                      | repeat apply Exists.intro
                        refine ⟨?_, rfl, rfl, rfl⟩
                        exact ⟨k + 1, 0 - 1, M', by omega, by go_num, rfl, rfl, hKz⟩
                    · simp [intOf]; omega
      · have i2 : ¬ (k : Int) < (N : Int) := by omega
        have hRwr := hK.sl
        have hSr := hK.st
        clear hK
        go_upto_region 15 with fail
        refine wp_region_lit ?_
        refine fl_start ?_
        generalize ha : Act.mk _ _ = a0
        have hn : a0.tmps.size = 125 := by rw [← ha]; kernel_rfl
        have h5 : (fr a0 []).eval (.tmp 5) = .pointer (some ⟨s, 0, none⟩) := by rw [← ha]; kernel_rfl
        refine fl_know hn rfl h5 ?_
        clear h5
        refine g_mv hn ?_
        have cR := arm_any B s (M) (-1) wr hRwr
        refine g_cvx enB_spinney_slate_Slate_Arm hn (R := fun v w6 => v = .int .i64 1 ∧ SlR B w6 s (M) ∧ StK B wr w6) (vs := #[.pointer (some ⟨s, 0, none⟩), .int .i64 (-1)]) (fun hk => by
          have e1 := lk_at hk (i := 107) rfl (fun _ => rfl) rfl
          simp only [List.map_toArray, List.map_cons, List.map_nil]
          rw [e1]
          rfl) (cR.mono fun _ _ ⟨he, h1, h2⟩ => ⟨_, he, rfl, h1, h2⟩) ?_
        rintro v wa ⟨rfl, hRwa, hKwa⟩
        clear cR
        refine g_bc hn ?_ (hr := er_eql 108 1 1 wa)
        refine g_mv hn ?_
        refine g_mv hn ?_
        have cR := arm_any B s (M) 1099511627777 wa hRwa
        refine g_cvx enB_spinney_slate_Slate_Arm hn (R := fun v w6 => v = .int .i64 1 ∧ SlR B w6 s (M) ∧ StK B wa w6) (vs := #[.pointer (some ⟨s, 0, none⟩), .int .i64 1099511627777]) (fun hk => by
          have e1 := lk_at hk (i := 111) rfl (fun _ => rfl) rfl
          simp only [List.map_toArray, List.map_cons, List.map_nil]
          rw [e1]
          rfl) (cR.mono fun _ _ ⟨he, h1, h2⟩ => ⟨_, he, rfl, h1, h2⟩) ?_
        rintro v wb ⟨rfl, hRwb, hKwb⟩
        clear cR
        refine g_bc hn ?_ (hr := er_eql 112 1 1 wb)
        refine g_an hn ?_
        refine g_mv hn ?_
        refine g_mv hn ?_
        have cR := arm_any B s (M) 0 wb hRwb
        refine g_cvx enB_spinney_slate_Slate_Arm hn (R := fun v w6 => v = .int .i64 0 ∧ SlR B w6 s (M.arms 0) ∧ StK B wb w6) (vs := #[.pointer (some ⟨s, 0, none⟩), .int .i64 0]) (fun hk => by
          have e1 := lk_at hk (i := 116) rfl (fun _ => rfl) rfl
          simp only [List.map_toArray, List.map_cons, List.map_nil]
          rw [e1]
          rfl) (cR.mono fun _ _ ⟨he, h1, h2⟩ => ⟨_, he, rfl, h1, h2⟩) ?_
        rintro v wc ⟨rfl, hRwc, hKwc⟩
        clear cR
        refine g_bc hn ?_ (hr := er_eql 117 0 0 wc)
        refine g_an hn ?_
        refine g_mv hn ?_
        refine g_mv hn ?_
        have cD := dead_any B s (M.arms 0) wc hRwc
        refine g_c1x enB_spinney_slate_Slate_Dead hn (R := fun v w6 => v = .bool false ∧ wc = w6) (cD.mono fun _ _ ⟨he, hw⟩ => ⟨_, he, rfl, hw.symm⟩) ?_
        rintro v w6 ⟨rfl, hw6⟩
        subst hw6
        refine g_nt hn ?_
        refine g_an hn ?_
        refine g_as hn ?_
        refine fl_end ?_
        clear hn cD
        subst ha
        dsimp only [fr, cnd, Act.put, cond_true]
        simp only [List.setIfInBounds_toArray, List.set_cons_zero, List.set_cons_succ]
        have hSf := ((hSr.trans hKwa).trans hKwb).trans hKwc
        clear hRwr hRwa hRwb hRwc hSr hKwa hKwb hKwc
        go_wp2_with fail
        go_ret
        exact ⟨rfl, by have := hSf.bel; rw [HB.out, HW.out] at this; exact this⟩
  · skip
    have dB : decide ((60 : Int) < (N : Int)) = true := decide_eq_true (by omega)
    go_upto_region 2 with fail
    refine wp_region_lit ?_
    refine fl_start ?_
    generalize ha : Act.mk _ _ = a0
    have hn : a0.tmps.size = 125 := by rw [← ha]; kernel_rfl
    have h0 : (fr a0 []).eval (.tmp 0) = .int .u8 (n.toNat : Int) := by rw [← ha]; kernel_rfl
    refine fl_know hn rfl h0 ?_
    clear h0
    have h1 : (fr a0 [(0, true, .int .u8 (n.toNat : Int))]).eval (.tmp 1) = .slice A N c := by rw [← ha]; kernel_rfl
    refine fl_know hn rfl h1 ?_
    clear h1
    have h5 : (fr a0 [(1, true, .slice A N c), (0, true, .int .u8 (n.toNat : Int))]).eval (.tmp 5) = .pointer (some ⟨s, 0, none⟩) := by rw [← ha]; kernel_rfl
    refine fl_know hn rfl h5 ?_
    clear h5
    refine g_cvx enB_spinney_spinneylaw09_awake hn (R := fun v w2 => v = .bool true ∧ Below w1.heap.size w1 w2) (vs := #[]) (fun _ => by simp) (cA.mono fun _ _ ⟨he, h⟩ => ⟨_, he, rfl, h⟩) ?_
    rintro v w2 ⟨rfl, hb2⟩
    refine g_nt hn ?_
    refine g_mv hn ?_
    refine g_mv hn ?_
    refine g_o1 hn (i := 17) (vi := .pointer (some ⟨s, 0, none⟩)) (v := .bool false) (fun ρ h hc => x_npB h (hc _)) ?_
    refine g_or hn ?_
    refine g_mv hn ?_
    refine g_mv hn ?_
    refine g_ln hn ?_
    refine g_bc hn ?_ (hr := gtrB w2 22 (N : Nat) 60 true dB)
    refine g_or hn ?_
    refine g_mv hn ?_
    refine g_offA .nilIface hn ?_
    refine g_offA .nilIface hn ?_
    refine g_offA .nilIface hn ?_
    refine g_offA .nilIface hn ?_
    refine g_offA (.bool false) hn ?_
    refine g_or hn ?_
    refine fl_end ?_
    clear hn cA
    subst ha
    dsimp only [fr, cnd, Act.put, cond_true]
    simp only [List.setIfInBounds_toArray, List.set_cons_zero, List.set_cons_succ]
    have hR2 := hR1.below hb2
    have hSK2 := hSK1.trans (StK.of_below hb2 hR1.size)
    clear hR1 hSK1 hb2 hE1 hb1
    have cA2 := awake9_any S w2 (hE.stk hSK2 hg)
    go_upto_region 3 with fail
    refine wp_region_lit ?_
    refine fl_start ?_
    generalize ha : Act.mk _ _ = a0
    have hn : a0.tmps.size = 125 := by rw [← ha]; kernel_rfl
    have h5 : (fr a0 []).eval (.tmp 5) = .pointer (some ⟨s, 0, none⟩) := by rw [← ha]; kernel_rfl
    refine fl_know hn rfl h5 ?_
    clear h5
    refine g_cvx enB_spinney_spinneylaw09_awake hn (R := fun v w3 => v = .bool true ∧ Below w2.heap.size w2 w3) (vs := #[]) (fun _ => by simp) (cA2.mono fun _ _ ⟨he, h⟩ => ⟨_, he, rfl, h⟩) ?_
    rintro v w3 ⟨rfl, hb3⟩
    refine g_mv hn ?_
    refine g_mv hn ?_
    refine g_o1 hn (i := 34) (vi := .pointer (some ⟨s, 0, none⟩)) (v := .bool true) (fun ρ h hc => x_nqB h (hc _)) ?_
    refine g_an hn ?_
    refine g_as hn ?_
    refine fl_end ?_
    clear hn cA2
    subst ha
    dsimp only [fr, cnd, Act.put, cond_true]
    simp only [List.setIfInBounds_toArray, List.set_cons_zero, List.set_cons_succ]
    have hSK3 := hSK2.trans (StK.of_below hb3 hR2.size)
    clear hR2
    go_wp2_with fail
    go_ret
    exact ⟨rfl, by have := hSK3.bel; rw [HB.out, HW.out] at this; exact this⟩
end Go.Proofs.YtjbmhbnlanbbkaaDoor
