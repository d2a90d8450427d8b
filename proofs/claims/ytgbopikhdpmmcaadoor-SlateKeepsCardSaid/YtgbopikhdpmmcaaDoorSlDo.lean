/-
  WHAT IS PROVED: slate's disk.do: a write is done upon a disk in memory. Conditions: those typed in each theorem.
-/
import Derived.Test.YtgbopikhdpmmcaaDoorSlMem
import Derived.Shelf.Abstract
import Derived.Deep.QuietTactic
import Derived.BigQuiet
import Derived.BigRegion
import Derived.Outline
import Derived.Deep.Cut
namespace Go.Proofs.YtgbopikhdpmmcaaDoor
open Go.RowKit

theorem enters_do : ∀ args w, (callFunc 36 args).run Tryd.prog w = .ok (.enter 36 args) w := enters_of Tryd.func36 (by kernel_rfl) rfl
theorem mpV_put (g : Int → Option (List UInt8)) (b : Int) (l : List UInt8) : upd (mpV g) b (some (.agg (bkA l))) = mpV (putF g b l) := by
  funext m
  unfold upd mpV putF
  by_cases h : m = b
  · rw [if_pos h, if_pos h]; rfl
  · rw [if_neg h, if_neg h]
/-- The tag of a new block. -/
def tgN (tg : Nat → Nat × Int) (x : Nat) (v : Nat × Int) : Nat → Nat × Int := fun y => if y = x then v else tg y
theorem tgN_at (tg : Nat → Nat × Int) (x : Nat) (v : Nat × Int) : tgN tg x v x = v := if_pos rfl
theorem tgN_ne (tg : Nat → Nat × Int) {x y : Nat} (v : Nat × Int) (h : y ≠ x) : tgN tg x v y = tg y := if_neg h
/-- What a write leaves. -/
def DoR (B : Nat) (tg : Nat → Nat × Int) (k d : Nat) (D : Dk) (w : Pw) (W W' : World) : Prop :=
  ∃ tg' f', (∀ x, x < W.heap.size → tg' x = tg x) ∧ DkR B tg' k W' d (putD D w) f' ∧ DoK B tg k W W'
theorem do_fin {B : Nat} {tg : Nat → Nat × Int} {k d c : Nat} {D : Dk} {f : Int → Option Value} {w : Pw} {g : Int → Option (List UInt8)} {W W3 W4 : World} (hD : DkR B tg k W d D f) (hl : w.l.length = 64) (hM3 : MpI W3 d (upd f w.f (some (.map (some c)))))
    (hB3 : Below B W W3) (h3 : ∀ x, x < W.heap.size → x ≠ d → W3.heap[x]? = W.heap[x]?) (ho : Only1 c W3 W4) (hM : MpI W4 c (mpV (putF g w.b w.l))) (hc : W.heap.size ≤ c ∨ (tg c = (k + 2, w.f) ∧ c < W.heap.size ∧ ∃ h, MpI W c h)) (hBc : B ≤ c) (hg : (D w.f).getD noF = g) (hgl : ∀ m l, g m = some l → l.length = 64) (hcd : c ≠ d) : DoR B tg k d D w W W4 := by
  have hdlt := hD.mp.lt
  have htg : ∀ x, x < W.heap.size → tgN tg c (k + 2, w.f) x = tg x := fun x hx => by
    by_cases e : x = c
    · subst e
      rw [tgN_at]
      rcases hc with h | ⟨h, _⟩
      · omega
      · exact h.symm
    · exact tgN_ne tg _ e
  have hother : ∀ x, x < W.heap.size → x ≠ d → x ≠ c → W4.heap[x]? = W.heap[x]? := fun x hx h1 h2 => (ho.block x h2).trans (h3 x hx h1)
  refine ⟨tgN tg c (k + 2, w.f), upd f w.f (some (.map (some c))), htg, ⟨hM3.other ho (Ne.symm hcd), hD.lo, (htg d hdlt).trans hD.tag, fun n hn => ?_, fun n v hv => ?_⟩, ⟨hB3.trans (ho.below hBc), fun x cs t fr hx => ?_, fun x hx h1 h2 => ?_⟩⟩
  · by_cases e : n = w.f
    · rw [e, upd_at] at hn
      cases hn
    · rw [upd_ne e] at hn
      show (if n = w.f then _ else D n) = none
      rw [if_neg e]
      exact hD.no n hn
  · by_cases e : n = w.f
    · subst e
      rw [upd_at] at hv
      cases hv
      refine ⟨c, putF g w.b w.l, rfl, tgN_at .., hBc, ?_, hM, fun m l hm => ?_⟩
      · show (if w.f = w.f then _ else D w.f) = _
        rw [if_pos rfl, hg]
      · unfold putF at hm
        by_cases em : m = w.b
        · rw [if_pos em] at hm
          cases hm
          exact hl
        · rw [if_neg em] at hm
          exact hgl m l hm
    · rw [upd_ne e] at hv
      obtain ⟨c2, g2, ev, ht2, hB2, hD2, hM2, hl2⟩ := hD.yes n v hv
      have hlt2 := hM2.lt
      have hne : c2 ≠ c := by
        rintro rfl
        rcases hc with h | ⟨h, _⟩
        · omega
        · rw [ht2] at h
          injection h with _ h
          exact e h
      have hnd : c2 ≠ d := by
        rintro rfl
        have := ht2.symm.trans hD.tag
        injection this with h1 _
        omega
      refine ⟨c2, g2, ev, (htg c2 hlt2).trans ht2, hB2, ?_, hM2.same (hother c2 hlt2 hnd hne), hl2⟩
      show (if n = w.f then _ else D n) = _
      rw [if_neg e]
      exact hD2
  · have hx2 : x < W.heap.size := (Array.getElem?_eq_some_iff.1 hx).1
    refine hother x hx2 ?_ ?_
    · rintro rfl
      obtain ⟨es, cl, hb, _⟩ := hD.mp
      rw [hx] at hb
      cases hb
    · rintro rfl
      rcases hc with h | ⟨_, _, h, es, cl, hb, _⟩
      · omega
      · rw [hx] at hb
        cases hb
  · refine hother x hx ?_ ?_
    · rintro rfl
      exact h1 (by rw [hD.tag])
    · rintro rfl
      rcases hc with h | ⟨h, _⟩
      · omega
      · exact h2 (by rw [h])
set_option maxRecDepth 100000 in
set_option maxHeartbeats 4000000 in
theorem do_any (B : Nat) (tg : Nat → Nat × Int) (k d : Nat) (D : Dk) (f : Int → Option Value) (w : Pw) (W : World) (hD : DkR B tg k W d D f) (hl : w.l.length = 64) (hB : B ≤ W.heap.size) : Calls Tryd.prog 36 #[.map (some d), .agg w.cells] W fun e W' => e = .returned (.tuple #[]) ∧ DoR B tg k d D w W W' := by
  have HL := Lib.hid hl
  have hdlt := hD.mp.lt
  go_enter Tryd.func36, Tryd.ntmps36
  go_upto_region 1 with fail
  have hY := blk_new W w.cells 87
  have hBel := b0 W (.cells w.cells 87)
  have hD1 := hD.below hBel
  generalize hW1 : W.alloc (.cells w.cells 87) = W1 at hY hBel hD1 ⊢
  generalize hb : W.heap.size = b at hY hB hdlt ⊢
  have hsz1 : W1.heap.size = b + 1 := by rw [← hW1, ← hb]; simp
  have lk := run_lookI (P := Tryd.prog) mUnd iUnd (zM W1) hD1.mp w.f
  have f0 := pw_f0 W1 b
  have l0 := pw_l0 hY
  clear hl
  cases hf : f w.f with
  | none =>
    rw [hf, Option.getD_none] at lk
    have e0 := eq_nil0 W1
    refine wp_region_lit ?_
    refine fl_start ?_
    generalize ha : Act.mk _ _ = a0
    have hn : a0.tmps.size = 21 := by rw [← ha]; kernel_rfl
    have h0 : (fr a0 []).eval (.tmp 0) = .map (some d) := by rw [← ha]; kernel_rfl
    refine fl_know hn rfl h0 ?_
    clear h0
    have h3 : (fr a0 [(0, true, .map (some d))]).eval (.tmp 3) = .pointer (some ⟨b, 0, none⟩) := by rw [← ha]; kernel_rfl
    refine fl_know hn rfl h3 ?_
    clear h3
    repeat first | refine g_mv hn ?_ | refine g_as hn ?_ | refine g_lk hn ?_ | refine g_fd hn ?_ | refine g_ld hn ?_ | refine g_nc hn ?_ | refine g_nt hn ?_ | refine g_an hn ?_ | refine g_or hn ?_ | refine g_ln hn ?_ | refine g_ex hn ?_ | refine g_neq2 hn ?_ | refine g_neq hn ?_ | refine g_eql2 hn ?_ | refine g_eql hn ?_ | refine g_leq2 hn ?_ | refine g_leq hn ?_ | refine g_lss2 hn ?_ | refine g_lss hn ?_ | refine g_gtr2 hn ?_ | refine g_gtr hn ?_ | refine g_geq2 hn ?_ | refine g_geq hn ?_ | refine g_b0 hn ?_ | refine g_bn hn ?_ | refine g_bc hn ?_ | refine g_cv hn ?_ | refine g_ac hn ?_ | refine g_mc hn ?_
    refine fl_end ?_
    clear hn
    subst ha
    dsimp only [fr, cnd, Act.put, cond_true]
    simp only [List.setIfInBounds_toArray, List.set_cons_zero, List.set_cons_succ]
    clear lk e0
    have hMk : MpI (W1.alloc (.map #[] 0)) W1.heap.size (mpV noF) := by
      have := mpi_new W1
      have e : mpV noF = fun _ => none := by funext m; rfl
      rw [e]
      exact this
    have hD2 := hD1.below (b0 W1 (.map #[] 0))
    have hY2 := hY.alloc (.map #[] 0)
    have hB2 := b0 W1 (.map #[] 0)
    go_upto_region 2 with fail
    refine wp_region_lit ?_
    refine fl_start ?_
    generalize ha : Act.mk _ _ = a0
    have hn : a0.tmps.size = 21 := by rw [← ha]; kernel_rfl
    have h0 : (fr a0 []).eval (.tmp 0) = .map (some d) := by rw [← ha]; kernel_rfl
    refine fl_know hn rfl h0 ?_
    clear h0
    have h3 : (fr a0 [(0, true, .map (some d))]).eval (.tmp 3) = .pointer (some ⟨b, 0, none⟩) := by rw [← ha]; kernel_rfl
    refine fl_know hn rfl h3 ?_
    clear h3
    refine g_mv hn ?_
    refine g_fd hn ?_
    refine g_ld hn ?_
    refine g_w hn (w2 := W1.alloc (.map #[] 0)) (v := .map (some W1.heap.size)) (fun _ => by unfold execOp; dsimp only; rw [Option.map_none, Sem.run_bind, run_mk]; rfl) ?_
    clear f0 l0
    generalize W1.alloc (.map #[] 0) = W2 at hMk hD2 hY2 hB2 ⊢
    rw [hsz1] at hMk ⊢
    obtain ⟨W3, hr3, ho3, hM3⟩ := run_putI (P := Tryd.prog) mUnd iUnd hD2.mp w.f (.map (some (b + 1)))
    refine g_mu hr3 ?_
    refine fl_end ?_
    clear hn
    subst ha
    dsimp only [fr, cnd, Act.put, cond_true]
    simp only [List.setIfInBounds_toArray, List.set_cons_zero, List.set_cons_succ]
    have hf3 : upd f w.f (some (.map (some (b + 1)))) w.f = some (.map (some (b + 1))) := upd_at ..
    have hne1 : b ≠ d := by omega
    have hne2 : b + 1 ≠ d := by omega
    have hb3 := hY2.only ho3 hne1
    have hC3 := hMk.other ho3 hne2
    have lb := run_lookI (P := Tryd.prog) mUnd iUnd (zM W3) hM3 w.f
    rw [hf3, Option.getD_some] at lb
    have f1 := pw_f1 W3 b
    have l1 := pw_l1 hb3
    have f2 := pw_f2 W3 b
    have l2 := pw_l2 hb3 HL.out
    have f0 := pw_f0 W3 b
    have l0 := pw_l0 hb3
    obtain ⟨W4, hr4, ho4, hM4⟩ := run_putI (P := Tryd.prog) mUnd2 iUnd hC3 w.b (.agg (bkA w.l))
    go_upto_region 3 with fail
    refine wp_region_lit ?_
    refine fl_start ?_
    generalize ha : Act.mk _ _ = a0
    have hn : a0.tmps.size = 21 := by rw [← ha]; kernel_rfl
    have h0 : (fr a0 []).eval (.tmp 0) = .map (some d) := by rw [← ha]; kernel_rfl
    refine fl_know hn rfl h0 ?_
    clear h0
    have h3 : (fr a0 [(0, true, .map (some d))]).eval (.tmp 3) = .pointer (some ⟨b, 0, none⟩) := by rw [← ha]; kernel_rfl
    refine fl_know hn rfl h3 ?_
    clear h3
    repeat first | refine g_mv hn ?_ | refine g_as hn ?_ | refine g_lk hn ?_ | refine g_fd hn ?_ | refine g_ld hn ?_ | refine g_nc hn ?_ | refine g_nt hn ?_ | refine g_an hn ?_ | refine g_or hn ?_ | refine g_ln hn ?_ | refine g_ex hn ?_ | refine g_neq2 hn ?_ | refine g_neq hn ?_ | refine g_eql2 hn ?_ | refine g_eql hn ?_ | refine g_leq2 hn ?_ | refine g_leq hn ?_ | refine g_lss2 hn ?_ | refine g_lss hn ?_ | refine g_gtr2 hn ?_ | refine g_gtr hn ?_ | refine g_geq2 hn ?_ | refine g_geq hn ?_ | refine g_b0 hn ?_ | refine g_bn hn ?_ | refine g_bc hn ?_ | refine g_cv hn ?_ | refine g_ac hn ?_ | refine g_mc hn ?_
    refine g_mu hr4 ?_
    refine fl_end ?_
    clear hn
    subst ha
    dsimp only [fr, cnd, Act.put, cond_true]
    simp only [List.setIfInBounds_toArray, List.set_cons_zero, List.set_cons_succ]
    go_wp2_with fail
    go_end0
    have hbk : ∀ x, x < b → W2.heap[x]? = W.heap[x]? := fun x hx => (hB2.block x (by omega)).trans (hBel.block x (by rw [hb]; exact hx))
    refine ⟨rfl, do_fin (c := b + 1) (g := noF) hD HL.out hM3 ((((hBel.mono (by rw [hb]; exact hB)).trans (hB2.mono (by omega)))).trans (ho3.below hD.lo)) (fun x hx hxd => (ho3.block x hxd).trans (hbk x (by rw [← hb]; exact hx))) ho4 (by rw [← mpV_put]; exact hM4) (.inl (by rw [hb]; omega)) (by omega) (by rw [hD.no _ hf]; rfl) (fun m l h => by cases h) (by omega)⟩
  | some v =>
    obtain ⟨c, g, rfl, htc, hBc, hDg, hMc, hg⟩ := hD1.yes _ _ hf
    have hMd := hD1.mp
    rw [hf, Option.getD_some] at lk
    have e0 := eq_nil1 c W1
    refine wp_region_lit ?_
    refine fl_start ?_
    generalize ha : Act.mk _ _ = a0
    have hn : a0.tmps.size = 21 := by rw [← ha]; kernel_rfl
    have h0 : (fr a0 []).eval (.tmp 0) = .map (some d) := by rw [← ha]; kernel_rfl
    refine fl_know hn rfl h0 ?_
    clear h0
    have h3 : (fr a0 [(0, true, .map (some d))]).eval (.tmp 3) = .pointer (some ⟨b, 0, none⟩) := by rw [← ha]; kernel_rfl
    refine fl_know hn rfl h3 ?_
    clear h3
    repeat first | refine g_mv hn ?_ | refine g_as hn ?_ | refine g_lk hn ?_ | refine g_fd hn ?_ | refine g_ld hn ?_ | refine g_nc hn ?_ | refine g_nt hn ?_ | refine g_an hn ?_ | refine g_or hn ?_ | refine g_ln hn ?_ | refine g_ex hn ?_ | refine g_neq2 hn ?_ | refine g_neq hn ?_ | refine g_eql2 hn ?_ | refine g_eql hn ?_ | refine g_leq2 hn ?_ | refine g_leq hn ?_ | refine g_lss2 hn ?_ | refine g_lss hn ?_ | refine g_gtr2 hn ?_ | refine g_gtr hn ?_ | refine g_geq2 hn ?_ | refine g_geq hn ?_ | refine g_b0 hn ?_ | refine g_bn hn ?_ | refine g_bc hn ?_ | refine g_cv hn ?_ | refine g_ac hn ?_ | refine g_mc hn ?_
    refine fl_end ?_
    clear hn
    subst ha
    dsimp only [fr, cnd, Act.put, cond_true]
    simp only [List.setIfInBounds_toArray, List.set_cons_zero, List.set_cons_succ]
    clear lk e0 f0 l0
    have hM3 := hMd
    have hf3 := hf
    have hb3 := hY
    have hC3 := hMc
    have e13 : W1 = W1 := rfl
    generalize hW3 : W1 = W3 at hM3 hb3 hC3 hBel ⊢
    have lb := run_lookI (P := Tryd.prog) mUnd iUnd (zM W3) hM3 w.f
    rw [hf3, Option.getD_some] at lb
    have f1 := pw_f1 W3 b
    have l1 := pw_l1 hb3
    have f2 := pw_f2 W3 b
    have l2 := pw_l2 hb3 HL.out
    have f0 := pw_f0 W3 b
    have l0 := pw_l0 hb3
    obtain ⟨W4, hr4, ho4, hM4⟩ := run_putI (P := Tryd.prog) mUnd2 iUnd hC3 w.b (.agg (bkA w.l))
    go_upto_region 3 with fail
    refine wp_region_lit ?_
    refine fl_start ?_
    generalize ha : Act.mk _ _ = a0
    have hn : a0.tmps.size = 21 := by rw [← ha]; kernel_rfl
    have h0 : (fr a0 []).eval (.tmp 0) = .map (some d) := by rw [← ha]; kernel_rfl
    refine fl_know hn rfl h0 ?_
    clear h0
    have h3 : (fr a0 [(0, true, .map (some d))]).eval (.tmp 3) = .pointer (some ⟨b, 0, none⟩) := by rw [← ha]; kernel_rfl
    refine fl_know hn rfl h3 ?_
    clear h3
    repeat first | refine g_mv hn ?_ | refine g_as hn ?_ | refine g_lk hn ?_ | refine g_fd hn ?_ | refine g_ld hn ?_ | refine g_nc hn ?_ | refine g_nt hn ?_ | refine g_an hn ?_ | refine g_or hn ?_ | refine g_ln hn ?_ | refine g_ex hn ?_ | refine g_neq2 hn ?_ | refine g_neq hn ?_ | refine g_eql2 hn ?_ | refine g_eql hn ?_ | refine g_leq2 hn ?_ | refine g_leq hn ?_ | refine g_lss2 hn ?_ | refine g_lss hn ?_ | refine g_gtr2 hn ?_ | refine g_gtr hn ?_ | refine g_geq2 hn ?_ | refine g_geq hn ?_ | refine g_b0 hn ?_ | refine g_bn hn ?_ | refine g_bc hn ?_ | refine g_cv hn ?_ | refine g_ac hn ?_ | refine g_mc hn ?_
    refine g_mu hr4 ?_
    refine fl_end ?_
    clear hn
    subst ha
    dsimp only [fr, cnd, Act.put, cond_true]
    simp only [List.setIfInBounds_toArray, List.set_cons_zero, List.set_cons_succ]
    go_wp2_with fail
    go_end0
    have hcd : c ≠ d := by
      rintro rfl
      have := htc.symm.trans hD.tag
      injection this with h1 _
      omega
    obtain ⟨c', g', ec, htc', hBc', hDg', hMc', hg'⟩ := hD.yes _ _ hf
    injection ec with ec
    injection ec with ec
    subst ec
    have hclt : c < b := by rw [← hb]; exact hMc'.lt
    have hu : upd f w.f (some (.map (some c))) = f := by
      funext m
      by_cases e : m = w.f
      · rw [e, upd_at, hf]
      · exact upd_ne e
    refine ⟨rfl, do_fin (c := c) (g := g) hD HL.out (by rw [hu]; exact hM3) (hBel.mono (by rw [hb]; exact hB)) (fun x hx _ => hBel.block x hx) ho4 (by rw [← mpV_put]; exact hM4) (.inr ⟨htc, by rw [hb]; exact hclt, _, hMc'⟩) hBc (by rw [hDg]; rfl) hg hcd⟩
end Go.Proofs.YtgbopikhdpmmcaaDoor
