/-
  WHAT IS PROVED: the burl of any cells (Of): the document's, or that they aren't good. Conditions: those typed in each theorem.
-/
import Derived.Test.YtokkmofcijfmiabBuF
import Derived.Test.YtokkmofcijfmiabBuG
import Derived.Test.YtokkmofcijfmiabGQ15
import Derived.Test.YtokkmofcijfmiabRGood
import Derived.Laws.Rows
namespace Go.Proofs.Ytokkmofcijfmiab
open Go.RowKit

theorem en_spinney_burl_Of : ∀ args w, (callFunc 12 args).run Try.prog w = .ok (.enter 12 args) w := enters_of Try.func12 (by kernel_rfl) rfl

theorem goodCls_mem {l : List Cl} (h : goodCls l = true) : ∀ x, x ∈ l → x.good = true := fun _ hx => goodLs_mem h hx
theorem results_ct28 {P : Program} {fn : Func} {p u : Tmp} {ty : TypeId} (h : fn.results = #[.cell p ty, .tmp u]) (tmps : Array Value) (w : World) (g : Nat) (t : TypeId) (cs : Array Value) (fr : Nat × Nat) (d : TypeDesc)
    (hp : tmps.getD p undef = .pointer (some ⟨g, 0, none⟩)) (hg : w.heap[g]? = some (.cells cs t fr))
    (hu : P.underlying ty = some d) (hd : (match d with | .struct _ | .array _ _ => true | _ => false) = true) (hi : (P.info? ty).map (·.size) = some cs.size) :
    (results fn tmps).run P w = .ok (.tuple #[.agg cs, tmps.getD u undef]) w := by
  have hp' : tmps[p]?.getD undef = .pointer (some ⟨g, 0, none⟩) := by simpa using hp
  simp [results, h, hp', asAddr, run_loadVar_row w g t ty cs fr d hg hu hd hi]
theorem bdBu (W : World) : (Instr.build 39 #[]).run Try.prog W = .ok (.agg (buC 0 (List.replicate 16 0))) W := by kernel_rfl
theorem alBu (w : World) : (Instr.alloc 39 true (.tuple #[])).run Try.prog w = .ok (.pointer (some ⟨w.heap.size, 0, none⟩)) (w.alloc (.cells (buC 0 (List.replicate 16 0)) 39)) := by kernel_rfl
set_option maxRecDepth 100000 in
set_option maxHeartbeats 4000000 in
theorem buOf_bad (A : Option Addr) (n c : Nat) (l : List Cl) (w : World) (hn : l.length = n) (hr : RdX 4 w.heap.size w A (l.map Cl.cells)) (hm : n ≤ 1000000) (hf : ∀ x, x ∈ l → x.fits) (hg : goodCls l = false) : Calls Try.prog 12 #[.slice A n c] w fun e w' => e = .returned (.tuple #[.agg (buC 0 (List.replicate 16 0)), .int .i64 2]) ∧ Below w.heap.size w w' := by
  have hX0 := blk_new w #[.int .u64 0, .int .u64 0, .int .u64 0, .int .u64 0, .int .u64 0, .int .u64 0, .int .u64 0, .int .u64 0, .int .u64 0, .int .u64 0, .int .u64 0, .int .u64 0, .int .u64 0, .int .u64 0, .int .u64 0, .int .u64 0, .int .u64 0] 39
  have hB := b0 w (.cells #[.int .u64 0, .int .u64 0, .int .u64 0, .int .u64 0, .int .u64 0, .int .u64 0, .int .u64 0, .int .u64 0, .int .u64 0, .int .u64 0, .int .u64 0, .int .u64 0, .int .u64 0, .int .u64 0, .int .u64 0, .int .u64 0, .int .u64 0] 39)
  have hzz : (w.alloc (.cells #[.int .u64 0, .int .u64 0, .int .u64 0, .int .u64 0, .int .u64 0, .int .u64 0, .int .u64 0, .int .u64 0, .int .u64 0, .int .u64 0, .int .u64 0, .int .u64 0, .int .u64 0, .int .u64 0, .int .u64 0, .int .u64 0, .int .u64 0] 39)).heap.size = w.heap.size + 1 := by simp
  go_enter Try.func12, Try.ntmps12
  go_upto_region 1 with fail
  generalize (w.alloc (.cells #[.int .u64 0, .int .u64 0, .int .u64 0, .int .u64 0, .int .u64 0, .int .u64 0, .int .u64 0, .int .u64 0, .int .u64 0, .int .u64 0, .int .u64 0, .int .u64 0, .int .u64 0, .int .u64 0, .int .u64 0, .int .u64 0, .int .u64 0] 39)) = W0 at hX0 hB hzz ⊢
  generalize hb : w.heap.size = b at hX0 hB hzz ⊢
  have e0 : #[.int .u64 0, .int .u64 0, .int .u64 0, .int .u64 0, .int .u64 0, .int .u64 0, .int .u64 0, .int .u64 0, .int .u64 0, .int .u64 0, .int .u64 0, .int .u64 0, .int .u64 0, .int .u64 0, .int .u64 0, .int .u64 0, .int .u64 0] = (buC 0 (List.replicate 16 0)) := by kernel_rfl
  rw [e0] at hX0
  clear e0
  have cG := goodCs_any A n c l W0 hn ((hr.keep (by rw [hb]; exact hB) (Nat.le_refl _)).more (by have := hB.size; omega)) (Nat.le_trans hm (by decide)) hf
  rw [hg] at cG
  go_wp2_with fail
  refine cG.mono ?_
  rintro e w2 ⟨rfl, hb2⟩
  have hX2 := hX0.keep hb2
  go_upto_region 2 with fail
  refine wp_region_lit ?_
  refine fl_start ?_
  generalize ha : Act.mk _ _ = a0
  have hn : a0.tmps.size = 10 := by rw [← ha]; kernel_rfl
  have h2 : (fr a0 []).eval (.tmp 2) = .pointer (some ⟨b, 0, none⟩) := by rw [← ha]; kernel_rfl
  refine fl_know hn rfl h2 ?_
  clear h2
  refine g_bd hn ?_ (qs := #[]) (v := .agg (buC 0 (List.replicate 16 0))) (g := true) (hp := fun _ _ => by simp) (hx := bdBu _)
  refine g_str hX2 ?_ (h1 := bu_one _ _)
  intro w4 ho4 hX6
  refine g_ac hn ?_
  refine fl_end ?_
  clear hn
  subst ha
  dsimp only [fr, cnd, Act.put, cond_true]
  simp only [List.setIfInBounds_toArray, List.set_cons_zero, List.set_cons_succ]
  have hB4 := (hB.trans (hb2.mono (by have := hB.size; omega))).trans (ho4.below (Nat.le_refl _))
  go_wp2_with fail
  refine bodyPost_ret (results_ct28 Try.results12 _ _ (b) 39 (buC 0 (List.replicate 16 0)) (0, 0) _ (by rfl) hX6 Try.underlying39 (by rfl) (by kernel_rfl)) rfl ?_
  exact ⟨rfl, by first | exact hB4 | (rw [hb]; exact hB4)⟩
set_option maxRecDepth 100000 in
set_option maxHeartbeats 4000000 in
theorem buOf_good (A : Option Addr) (n c : Nat) (l : List Cl) (w : World) (hn : l.length = n) (hr : RdX 4 w.heap.size w A (l.map Cl.cells)) (hm : n ≤ 1000000) (hf : ∀ x, x ∈ l → x.fits) (hg : goodCls l = true) : Calls Try.prog 12 #[.slice A n c] w fun e w' => e = .returned (.tuple #[.agg (burlC l), .int .i64 0]) ∧ Below w.heap.size w w' := by
  have hLl := lvTo_len l
  have hbs : (burlC l).size = 17 := by unfold burlC; rw [buC_size, hLl]
  have hX0 := blk_new w #[.int .u64 0, .int .u64 0, .int .u64 0, .int .u64 0, .int .u64 0, .int .u64 0, .int .u64 0, .int .u64 0, .int .u64 0, .int .u64 0, .int .u64 0, .int .u64 0, .int .u64 0, .int .u64 0, .int .u64 0, .int .u64 0, .int .u64 0] 39
  have hB := b0 w (.cells #[.int .u64 0, .int .u64 0, .int .u64 0, .int .u64 0, .int .u64 0, .int .u64 0, .int .u64 0, .int .u64 0, .int .u64 0, .int .u64 0, .int .u64 0, .int .u64 0, .int .u64 0, .int .u64 0, .int .u64 0, .int .u64 0, .int .u64 0] 39)
  have hzz : (w.alloc (.cells #[.int .u64 0, .int .u64 0, .int .u64 0, .int .u64 0, .int .u64 0, .int .u64 0, .int .u64 0, .int .u64 0, .int .u64 0, .int .u64 0, .int .u64 0, .int .u64 0, .int .u64 0, .int .u64 0, .int .u64 0, .int .u64 0, .int .u64 0] 39)).heap.size = w.heap.size + 1 := by simp
  go_enter Try.func12, Try.ntmps12
  go_upto_region 1 with fail
  generalize (w.alloc (.cells #[.int .u64 0, .int .u64 0, .int .u64 0, .int .u64 0, .int .u64 0, .int .u64 0, .int .u64 0, .int .u64 0, .int .u64 0, .int .u64 0, .int .u64 0, .int .u64 0, .int .u64 0, .int .u64 0, .int .u64 0, .int .u64 0, .int .u64 0] 39)) = W0 at hX0 hB hzz ⊢
  generalize hb : w.heap.size = b at hX0 hB hzz ⊢
  have hr0 := (hr.keep (by rw [hb]; exact hB) (Nat.le_refl _)).more (show w.heap.size ≤ W0.heap.size by have := hB.size; omega)
  have cG := goodCs_any A n c l W0 hn hr0 (Nat.le_trans hm (by decide)) hf
  rw [hg] at cG
  go_wp2_with fail
  refine cG.mono ?_
  rintro e w2 ⟨rfl, hb2⟩
  have hX2 := hX0.keep hb2
  have hr2 := (hr0.keep hb2 (Nat.le_refl _)).more hb2.size
  have cO := buOf_any A n c l w2 hn hr2 hm hf (goodCls_mem hg)
  go_upto_region 3 with fail
  refine wp_region_lit ?_
  refine fl_start ?_
  generalize ha : Act.mk _ _ = a0
  have hn : a0.tmps.size = 10 := by rw [← ha]; kernel_rfl
  have h0 : (fr a0 []).eval (.tmp 0) = .slice A n c := by rw [← ha]; kernel_rfl
  refine fl_know hn rfl h0 ?_
  clear h0
  have h2 : (fr a0 [(0, true, .slice A n c)]).eval (.tmp 2) = .pointer (some ⟨b, 0, none⟩) := by rw [← ha]; kernel_rfl
  refine fl_know hn rfl h2 ?_
  clear h2
  refine g_mv hn ?_
  refine g_c1x en_spinney_burl_of hn (R := fun v w3 => v = .agg (burlC l) ∧ Below w2.heap.size w2 w3) (cO.mono fun _ _ ⟨he, hb3⟩ => ⟨_, he, rfl, hb3⟩) ?_
  rintro v w3 ⟨rfl, hb3⟩
  have hX3 := hX2.keep hb3
  refine g_str (c := burlC l) hX3 ?_ (hs := by rw [hbs]; rfl) (hi := by rw [hbs]; kernel_rfl) (h1 := bu_one _ _)
  intro w4 ho4 hX6
  refine g_ac hn ?_
  refine fl_end ?_
  clear hn
  subst ha
  dsimp only [fr, cnd, Act.put, cond_true]
  simp only [List.setIfInBounds_toArray, List.set_cons_zero, List.set_cons_succ]
  have hB2 := hB.trans (hb2.mono (by have := hB.size; omega))
  have hB4 := (hB2.trans (hb3.mono (by have := hB2.size; omega))).trans (ho4.below (Nat.le_refl _))
  go_wp2_with fail
  refine bodyPost_ret (results_ct28 Try.results12 _ _ (b) 39 (burlC l) (0, 0) _ (by rfl) hX6 Try.underlying39 (by rfl) (by rw [hbs]; kernel_rfl)) rfl ?_
  exact ⟨rfl, by first | exact hB4 | (rw [hb]; exact hB4)⟩
end Go.Proofs.Ytokkmofcijfmiab
