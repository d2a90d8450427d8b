/-
  WHAT IS PROVED: a slate in memory; New, Read and Write. Conditions: those typed in each theorem.
-/
import Derived.Test.YtgbopikhdpmmcaaDoorSlStep
namespace Go.Proofs.YtgbopikhdpmmcaaDoor
open Go.RowKit

/-- A slate, plainly. -/
structure Sl where
  (kept seen : Dk)
  pend : List Pw
  armed : Bool
  budget : Int
  dead : Bool
/-- It lies at s, all of it in blocks from B on. -/
def SlR (B : Nat) (W : World) (s : Nat) (M : Sl) : Prop :=
  ∃ (tg : Nat → Nat × Int) (d1 d2 : Nat) (f1 f2 : Int → Option Value) (A : Option Addr) (n c : Nat), Blk W s (slI d1 d2 A n c M.armed M.budget M.dead) 81 ∧ B ≤ s ∧ DkR B tg 0 W d1 M.kept f1 ∧ DkR B tg 1 W d2 M.seen f2 ∧ OwnX 87 66 B W A n c (M.pend.map Pw.cells) ∧
    (∀ x, x ∈ M.pend → x.l.length = 64) ∧ 0 ≤ M.budget ∧ M.budget ≤ 1099511627776 ∧ B ≤ W.heap.size
/-- What stays when a slate turns: all below B, and all cells that aren't a slate's or a write's. -/
structure StK (B : Nat) (W W' : World) : Prop where
  bel : Below B W W'
  cel : ∀ (x : Nat) (cs : Array Value) (t : TypeId) (fr : Nat × Nat), W.heap[x]? = some (Obj.cells cs t fr) → t ≠ 81 → t ≠ 87 → W'.heap[x]? = W.heap[x]?
theorem StK.refl (B : Nat) (W : World) : StK B W W := ⟨Below.refl _ _, fun _ _ _ _ _ _ _ => rfl⟩
theorem StK.trans {B : Nat} {a b c : World} (h : StK B a b) (k : StK B b c) : StK B a c :=
  ⟨h.bel.trans k.bel, fun x cs t fr hx h1 h2 => (k.cel x cs t fr ((h.cel x cs t fr hx h1 h2).trans hx) h1 h2).trans (h.cel x cs t fr hx h1 h2)⟩
theorem StK.of_below {B : Nat} {W W' : World} (h : Below W.heap.size W W') (hB : B ≤ W.heap.size) : StK B W W' := ⟨h.mono hB, fun x _ _ _ hx _ _ => h.block x (Array.getElem?_eq_some_iff.1 hx).1⟩
theorem SlR.below {B s : Nat} {W W' : World} {M : Sl} (h : SlR B W s M) (hb : Below W.heap.size W W') : SlR B W' s M := by
  obtain ⟨tg, d1, d2, f1, f2, A, n, c, h1, h2, h3, h4, h5, h6, h7, h8, h9⟩ := h
  exact ⟨tg, d1, d2, f1, f2, A, n, c, h1.keep hb, h2, h3.below hb, h4.below hb, h5.keep hb, h6, h7, h8, Nat.le_trans h9 hb.size⟩
def sl0 : Sl := ⟨fun _ => none, fun _ => none, [], false, 0, false⟩
theorem dk_new (B : Nat) (tg : Nat → Nat × Int) (k : Nat) (W : World) (hB : B ≤ W.heap.size) (ht : tg W.heap.size = (k, -1)) : DkR B tg k (W.alloc (.map #[] 0)) W.heap.size (fun _ => none) (fun _ => none) :=
  ⟨mpi_new W, hB, ht, fun _ _ => rfl, fun n v h => by cases h⟩
theorem enters_New : ∀ args w, (callFunc 20 args).run Tryd.prog w = .ok (.enter 20 args) w := enters_of Tryd.func20 (by kernel_rfl) rfl

theorem bd_sl (d1 d2 : Nat) (W : World) : (Instr.build 81 #[(0, .map (some d1)), (1, .map (some d2))]).run Tryd.prog W = .ok (.agg (slI d1 d2 none 0 0 false 0 false)) W := by kernel_rfl
theorem sl_one (d1 d2 : Nat) (A : Option Addr) (n c : Nat) (ar : Bool) (bu : Int) (de : Bool) : (slI d1 d2 A n c ar bu de).all (·.oneCell') = true := by simp [Value.oneCell']
def NewR (w : World) (M : Sl) (v : Value) (w' : World) : Prop := ∃ s, v = .pointer (some ⟨s, 0, none⟩) ∧ SlR w.heap.size w' s M ∧ Below w.heap.size w w'
set_option maxRecDepth 100000 in
set_option maxHeartbeats 4000000 in
theorem new_any (w : World) : Calls Tryd.prog 20 #[] w fun e w' => ∃ v, e = .returned v ∧ NewR w sl0 v w' := by
  go_enter Tryd.func20, Tryd.ntmps20
  go_upto_region 1 with fail
  refine wp_region_lit ?_
  refine fl_start ?_
  generalize ha : Act.mk _ _ = a0
  have hn : a0.tmps.size = 5 := by rw [← ha]; kernel_rfl
  refine g_w hn (w2 := w.alloc (.map #[] 0)) (v := .map (some w.heap.size)) (fun _ => by unfold execOp; dsimp only; rw [Option.map_none, Sem.run_bind, run_mk]; rfl) ?_
  have hm1 := dk_new w.heap.size (fun x => if x = w.heap.size then (0, -1) else (1, -1)) 0 w (Nat.le_refl _) (if_pos rfl)
  have hb1 := b0 w (.map #[] 0)
  have hs1 : (w.alloc (.map #[] 0)).heap.size = w.heap.size + 1 := by simp
  generalize w.alloc (.map #[] 0) = w1 at hm1 hb1 hs1 ⊢
  refine g_w hn (w2 := w1.alloc (.map #[] 0)) (v := .map (some w1.heap.size)) (fun _ => by unfold execOp; dsimp only; rw [Option.map_none, Sem.run_bind, run_mk]; rfl) ?_
  have hm2 := dk_new w.heap.size (fun x => if x = w.heap.size then (0, -1) else (1, -1)) 1 w1 (by omega) (if_neg (by omega))
  have hm1b := hm1.below (b0 w1 (.map #[] 0))
  have hb2 := bt hb1 (b0 w1 (.map #[] 0))
  have hs2 : (w1.alloc (.map #[] 0)).heap.size = w.heap.size + 2 := by simp [hs1]
  generalize w1.alloc (.map #[] 0) = w2 at hm2 hm1b hb2 hs2 ⊢
  generalize w1.heap.size = d2 at hm2 hs1 ⊢
  generalize hd1 : w.heap.size = d1 at hm1b hm2 hs1 hs2 hb2 ⊢
  refine g_bd hn ?_ (qs := #[(0, .map (some d1)), (1, .map (some d2))]) (v := .agg (slI d1 d2 none 0 0 false 0 false)) (hx := bd_sl d1 d2 w2) (hp := fun hk _ => by simp only [List.map_toArray, List.map_cons, List.map_nil, lk_at hk (i := 1) rfl (fun _ => rfl) rfl, lk_at hk (i := 2) rfl (fun _ => rfl) rfl])
  refine g_w hn (w2 := w2.alloc (.cells (slI d1 d2 none 0 0 false 0 false) 81)) (v := .pointer (some ⟨w2.heap.size, 0, none⟩)) (fun hk => by unfold execOp; dsimp only; rw [lk_at hk (i := 3) rfl (fun _ => rfl) rfl]; rfl) ?_
  repeat first | refine g_mv hn ?_ | refine g_as hn ?_ | refine g_fd hn ?_ | refine g_ld hn ?_ | refine g_nc hn ?_ | refine g_nt hn ?_ | refine g_an hn ?_ | refine g_or hn ?_ | refine g_ln hn ?_ | refine g_ex hn ?_ | refine g_neq2 hn ?_ | refine g_neq hn ?_ | refine g_eql2 hn ?_ | refine g_eql hn ?_ | refine g_leq2 hn ?_ | refine g_leq hn ?_ | refine g_lss2 hn ?_ | refine g_lss hn ?_ | refine g_gtr2 hn ?_ | refine g_gtr hn ?_ | refine g_geq2 hn ?_ | refine g_geq hn ?_ | refine g_b0 hn ?_ | refine g_bn hn ?_ | refine g_bc hn ?_ | refine g_cv hn ?_ | refine g_ac hn ?_ | refine g_mc hn ?_
  refine fl_end ?_
  clear hn
  subst ha
  dsimp only [fr, cnd, Act.put, cond_true]
  simp only [List.setIfInBounds_toArray, List.set_cons_zero, List.set_cons_succ]
  go_wp2_with fail
  go_ret
  have hbl := b0 w2 (.cells (slI d1 d2 none 0 0 false 0 false) 81)
  refine ⟨_, rfl, w2.heap.size, rfl, ?_, ?_⟩
  · rw [hd1]
    refine ⟨_, d1, d2, _, _, none, 0, 0, blk_new w2 (slI d1 d2 none 0 0 false 0 false) 81, ?_, hm1b.below hbl, hm2.below hbl, OwnX.nil _ _ _ _, fun x hx => ?_, ?_, ?_, ?_⟩
    · omega
    · have hx' : x ∈ ([] : List Pw) := hx
      simp at hx'
    · show (0 : Int) ≤ 0
      omega
    · show (0 : Int) ≤ 1099511627776
      omega
    · have := hbl.size
      omega
  · rw [hd1]
    exact hb2.trans (hbl.mono (by omega))
end Go.Proofs.YtgbopikhdpmmcaaDoor
