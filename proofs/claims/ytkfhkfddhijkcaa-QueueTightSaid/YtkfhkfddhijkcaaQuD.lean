/-
  WHAT IS PROVED: the law's write of an id. Conditions: those typed in each theorem.
-/
import Derived.Test.YtkfhkfddhijkcaaQuC
import Derived.Test.YtkfhkfddhijkcaaQuM
namespace Go.Proofs.Ytkfhkfddhijkcaa
open Go.RowKit

theorem en_spinney_spinneylaw14_w : ∀ args w, (callFunc 24 args).run Try.prog w = .ok (.enter 24 args) w := enters_of Try.func24 (by kernel_rfl) rfl
theorem en_spinney_spinneylaw14_awake : ∀ args w, (callFunc 15 args).run Try.prog w = .ok (.enter 15 args) w := enters_of Try.func15 (by kernel_rfl) rfl

/-- The law's write of an id. -/
abbrev wW (d k : Int) : Wr := ⟨d, k, 2, ⟨#[107]⟩, 0, 0, ⟨#[]⟩, 0, 0, ⟨#[]⟩⟩
theorem wW_fit (d k : Int) : Fit (wW d k) := ⟨show (1 : Nat) ≤ 1000000 by omega, show (0 : Nat) ≤ 1000000 by omega, show (0 : Nat) ≤ 1000000 by omega⟩
theorem x_bdQ {P : Program} {w : World} {ρ : Operand → Value} {d : Option Tmp} {t : TypeId} {fs : Array (Nat × Operand)} {vs : Array (Nat × Value)} {ty : TypeId} {p : String} {af : Array Edge} {gd : Option (Nat × Bool)} {v : Value} (h : fs.map (fun y => (y.fst, ρ y.snd)) = vs) (hr : (Instr.build t vs).run P w = .ok v w) : (execOp ρ ⟨d, .build t fs, ty, p, af, gd⟩).run P w = .ok (.value v) w := by
  rw [← h] at hr
  unfold execOp
  dsimp only
  rw [Sem.run_bind]
  exact (congrArg (fun r => Result.andThen r _) hr).trans rfl
theorem bdIdQ (d k : Int) (w : World) : (Instr.build 32 #[(0, .int .i64 d), (1, .int .i64 k)]).run Try.prog w = .ok (.agg #[.int .i64 d, .int .i64 k]) w := by kernel_rfl
theorem bdOpQ (w : World) : (Instr.build 37 #[(0, .int .i64 2), (1, .string ⟨#[107]⟩)]).run Try.prog w = .ok (.agg #[.int .i64 2, .string ⟨#[107]⟩, .int .i64 0, .int .i64 0, .string ⟨#[]⟩, .int .i64 0, .int .i64 0, .string ⟨#[]⟩]) w := by kernel_rfl
theorem bdWrQ (d k : Int) (w : World) : (Instr.build 39 #[(0, .agg #[.int .i64 d, .int .i64 k]), (1, .agg #[.int .i64 2, .string ⟨#[107]⟩, .int .i64 0, .int .i64 0, .string ⟨#[]⟩, .int .i64 0, .int .i64 0, .string ⟨#[]⟩])]).run Try.prog w = .ok (.agg (wW d k).cells) w := by kernel_rfl
set_option maxRecDepth 100000 in
set_option maxHeartbeats 4000000 in
theorem w14_any (d k : Int) (w : World) : Calls Try.prog 24 #[.int .i64 d, .int .i64 k] w fun e w' => e = .returned (.agg (wW d k).cells) ∧ Below w.heap.size w w' := by
  have hX0 := blk_new w (wrI 0 0 0 ⟨#[]⟩ 0 0 ⟨#[]⟩ 0 0 ⟨#[]⟩) 39
  have hB := b0 w (.cells (wrI 0 0 0 ⟨#[]⟩ 0 0 ⟨#[]⟩ 0 0 ⟨#[]⟩) 39)
  have hzz : (w.alloc (.cells (wrI 0 0 0 ⟨#[]⟩ 0 0 ⟨#[]⟩ 0 0 ⟨#[]⟩) 39)).heap.size = w.heap.size + 1 := by simp
  go_enter Try.func24, Try.ntmps24
  go_upto_region 1 with fail
  generalize (w.alloc (.cells (wrI 0 0 0 ⟨#[]⟩ 0 0 ⟨#[]⟩ 0 0 ⟨#[]⟩) 39)) = W0 at hX0 hB hzz ⊢
  generalize hb : w.heap.size = b at hX0 hB hzz ⊢
  refine wp_region_lit ?_
  refine fl_start ?_
  generalize ha : Act.mk _ _ = a0
  have hn : a0.tmps.size = 10 := by rw [← ha]; kernel_rfl
  have h0 : (fr a0 []).eval (.tmp 0) = .int .i64 d := by rw [← ha]; kernel_rfl
  refine fl_know hn rfl h0 ?_
  clear h0
  have h1 : (fr a0 [(0, true, .int .i64 d)]).eval (.tmp 1) = .int .i64 k := by rw [← ha]; kernel_rfl
  refine fl_know hn rfl h1 ?_
  clear h1
  have h4 : (fr a0 [(1, true, .int .i64 k), (0, true, .int .i64 d)]).eval (.tmp 4) = .pointer (some ⟨b, 0, none⟩) := by rw [← ha]; kernel_rfl
  refine fl_know hn rfl h4 ?_
  clear h4
  refine g_mv hn ?_
  refine g_mv hn ?_
  refine fl_op (v := .agg #[.int .i64 d, .int .i64 k]) hn rfl (by rfl) rfl (fun hk _ => x_bdQ (by simp only [List.map_toArray, List.map_cons, List.map_nil, lk_at hk (i := 5) rfl (fun _ => rfl) rfl, lk_at hk (i := 6) rfl (fun _ => rfl) rfl]) (bdIdQ d k W0)) ?_
  refine fl_op (v := .agg #[.int .i64 2, .string ⟨#[107]⟩, .int .i64 0, .int .i64 0, .string ⟨#[]⟩, .int .i64 0, .int .i64 0, .string ⟨#[]⟩]) hn rfl (by rfl) rfl (fun hk _ => x_bdQ (by simp only [List.map_toArray, List.map_cons, List.map_nil]; rfl) (bdOpQ W0)) ?_
  refine fl_op (v := .agg (wW d k).cells) hn rfl (by rfl) rfl (fun hk _ => x_bdQ (by simp only [List.map_toArray, List.map_cons, List.map_nil, lk_at hk (i := 7) rfl (fun _ => rfl) rfl, lk_at hk (i := 8) rfl (fun _ => rfl) rfl]) (bdWrQ d k W0)) ?_
  refine g_str hX0 ?_ (h1 := wr_oneC (wW d k))
  intro w2 ho hX2
  refine fl_end ?_
  clear hn
  subst ha
  dsimp only [fr, cnd, Act.put, cond_true]
  simp only [List.setIfInBounds_toArray, List.set_cons_zero, List.set_cons_succ]
  have hB2 := hB.trans (ho.below (Nat.le_refl _))
  clear hX0 hB ho
  go_wp2_with fail
  refine bodyPost_ret (results_cell_row Try.results24 _ _ (b) 39 (wW d k).cells (0, 0) _ (by rfl) hX2 Try.underlying39 (by rfl) (by kernel_rfl)) rfl ?_
  exact ⟨rfl, by first | exact hB2 | (rw [hb]; exact hB2)⟩
end Go.Proofs.Ytkfhkfddhijkcaa
