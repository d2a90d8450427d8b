/-
  WHAT IS PROVED: a disk copied. Conditions: those typed in each theorem.
-/
import Derived.Test.YtgbopikhdpmmcaaDoorSlCopied
namespace Go.Proofs.YtgbopikhdpmmcaaDoor
open Go.RowKit Go.MapKept

theorem next_ty (x : Value) (a b : TypeId) : Instr.next x false a = Instr.next x false b := rfl
/-- A disk, of its files those of a list. -/
def someD (D : Dk) (ks : List Int) : Dk := fun n => if n ∈ ks then D n else none
theorem someD_nil (D : Dk) : someD D [] = fun _ => none := by
  funext n
  exact if_neg (by simp)
/-- One file more, its blocks in a map of its own. -/
theorem DkR.more {B : Nat} {tg : Nat → Nat × Int} {k : Nat} {W W' : World} {d c : Nat} {D : Dk} {ks : List Int} {f : Int → Option Value} {n : Int} {g : Int → Option (List UInt8)} (h : DkR B tg k W d (someD D ks) f) (ho : Only1 d W W') (hm : MpI W' d (upd f n (some (.map (some c))))) (hc : MpI W c (mpV g)) (ht : tg c = (k + 2, n)) (hBc : B ≤ c) (hD : D n = some g) (hl : ∀ m l, g m = some l → l.length = 64) : DkR B tg k W' d (someD D (n :: ks)) (upd f n (some (.map (some c)))) := by
  have hcd : ∀ {x : Nat} {m : Int}, tg x = (k + 2, m) → x ≠ d := fun hx e => by
    rw [e, h.tag] at hx
    injection hx with hx _
    omega
  refine ⟨hm, h.lo, h.tag, fun m hn => ?_, fun m v hv => ?_⟩
  · by_cases e : m = n
    · rw [e, upd_at] at hn
      cases hn
    · rw [upd_ne e] at hn
      have := h.no m hn
      unfold someD at *
      by_cases e2 : m ∈ ks
      · rw [if_pos e2] at this
        rw [this, ite_self]
      · exact if_neg (by simp [e, e2])
  · by_cases e : m = n
    · subst e
      rw [upd_at] at hv
      injection hv with hv
      exact ⟨c, g, hv.symm, ht, hBc, by unfold someD; rw [if_pos (by simp)]; exact hD, hc.other ho (hcd ht), hl⟩
    · rw [upd_ne e] at hv
      obtain ⟨c2, g2, h1, h2, h3, h4, h5, h6⟩ := h.yes m v hv
      refine ⟨c2, g2, h1, h2, h3, ?_, h5.other ho (hcd h2), h6⟩
      unfold someD at *
      by_cases e2 : m ∈ ks
      · rw [if_pos e2] at h4
        rw [if_pos (by simp [e2])]
        exact h4
      · rw [if_neg e2] at h4
        cases h4
/-- How a copy is on its way. -/
structure CopI (tg0 : Nat → Nat × Int) (k2 : Nat) (D : Dk) (W : World) (r d d2 : Nat) (es : Array MapEntry) (clock : Nat) (wr : World) (ks : List Int) (seen : Array Nat) (c0 : Nat) (tg2 : Nat → Nat × Int) (f2 : Int → Option Value) : Prop where
  it : wr.heap[r]? = some (.mapIter (some d) clock seen c0)
  cle : clock ≤ c0
  kd : ∀ e, e ∈ es.toList → seen.contains e.born = true → ∃ n, n ∈ ks ∧ e.key = .int .i64 n
  dk : DkR W.heap.size tg2 k2 wr d2 (someD D ks) f2
  tg : ∀ x, x < W.heap.size → tg2 x = tg0 x
  bel : Below W.heap.size W wr
  rlo : W.heap.size ≤ r
/-- What copied answers. -/
def CopR (tg0 : Nat → Nat × Int) (k2 : Nat) (D : Dk) (W : World) (v : Value) (W' : World) : Prop := ∃ (d2 : Nat) (tg2 : Nat → Nat × Int) (f2 : Int → Option Value), v = .map (some d2) ∧ (∀ x, x < W.heap.size → tg2 x = tg0 x) ∧ DkR W.heap.size tg2 k2 W' d2 D f2 ∧ Below W.heap.size W W'
theorem cop_end {tg0 : Nat → Nat × Int} {k2 : Nat} {D : Dk} {W : World} {r d d2 : Nat} {es : Array MapEntry} {clock : Nat} {wr : World} {ks : List Int} {seen : Array Nat} {c0 : Nat} {tg2 : Nat → Nat × Int} {f2 f : Int → Option Value} (h : CopI tg0 k2 D W r d d2 es clock wr ks seen c0 tg2 f2) (hs : (leftOf es seen).size = 0) (hno : ∀ n, f n = none → D n = none) (hf : ∀ n v, f n = some v → ∃ e, e ∈ es.toList ∧ e.key = .int .i64 n ∧ e.val = v) : CopR tg0 k2 D W (.map (some d2)) wr := by
  have e : someD D ks = D := by
    funext n
    unfold someD
    cases hn : f n with
    | none => rw [hno n hn, ite_self]
    | some v =>
      obtain ⟨e, he, hk, _⟩ := hf n v hn
      have hse : seen.contains e.born = true := by
        cases hc : seen.contains e.born with
        | true => rfl
        | false =>
          have : e ∈ leftOf es seen := by
            unfold leftOf
            rw [Array.mem_filter]
            exact ⟨by simpa using he, by rw [hc]; rfl⟩
          rw [Array.eq_empty_of_size_eq_zero hs] at this
          simp at this
      obtain ⟨n2, h1, h2⟩ := h.kd e he hse
      rw [hk] at h2
      rw [if_pos (by rw [key_int h2]; exact h1)]
  refine ⟨d2, tg2, f2, rfl, h.tg, ?_, h.bel⟩
  have := h.dk
  rwa [e] at this
theorem enters_copied : ∀ args w, (callFunc 39 args).run Tryd.prog w = .ok (.enter 39 args) w := enters_of Tryd.func39 (by kernel_rfl) rfl

theorem mapiter_maps {W W' : World} {r : Nat} {a : Option Nat} {b c : Nat} {s : Array Nat} (h : W.heap[r]? = some (.mapIter a b s c)) (ho : Only1 r W W') : ∀ (x : Nat) (es : Array MapEntry) (cl : Nat), W.heap[x]? = some (Obj.map es cl) → W'.heap[x]? = W.heap[x]? := fun x es cl hx => ho.block x (by
  rintro rfl
  rw [h] at hx
  cases hx)
set_option maxRecDepth 100000 in
set_option maxHeartbeats 4000000 in
theorem copied_any (B : Nat) (tg tg0 : Nat → Nat × Int) (k k2 d : Nat) (D : Dk) (f : Int → Option Value) (W : World) (hD : DkR B tg k W d D f) : Calls Tryd.prog 39 #[.map (some d)] W fun e W' => ∃ v, e = .returned v ∧ CopR tg0 k2 D W v W' := by
  have hdl := hD.mp.lt
  obtain ⟨es, clock, hb, ⟨hst1, hst2, hst3⟩, hk1, hk2⟩ := id hD.mp
  have HD := Lib.hid hD
  have HB := Lib.hid hb
  have HK1 := Lib.hid hk1
  have HK2 := Lib.hid hk2
  have HS1 := Lib.hid hst1
  have HS2 := Lib.hid hst2
  clear hD hb hk1 hk2 hst1 hst2 hst3
  go_enter Tryd.func39, Tryd.ntmps39
  go_upto_region 1 with fail
  refine wp_region_lit ?_
  refine fl_start ?_
  generalize ha : Act.mk _ _ = a0
  have hn : a0.tmps.size = 19 := by rw [← ha]; kernel_rfl

  refine g_w hn (w2 := W.alloc (.map #[] 0)) (v := .map (some W.heap.size)) (fun _ => by unfold execOp; dsimp only; rw [Option.map_none, Sem.run_bind, run_mk]; rfl) ?_
  have hm1 := dk_new W.heap.size (tgN tg0 W.heap.size (k2, -1)) k2 W (Nat.le_refl _) (tgN_at _ _ _)
  have hb1 := b0 W (.map #[] 0)
  generalize W.alloc (.map #[] 0) = w1 at hm1 hb1 ⊢
  have htg : ∀ x, x < W.heap.size → tgN tg0 W.heap.size (k2, -1) x = tg0 x := fun x hx => tgN_ne _ _ (by omega)
  generalize tgN tg0 W.heap.size (k2, -1) = tg1 at hm1 htg
  generalize hd2 : W.heap.size = d2 at hm1 ⊢
  have hm1' : DkR W.heap.size tg1 k2 w1 d2 (fun _ => none) (fun _ => none) := by
    rw [hd2]
    exact hm1
  clear hm1
  repeat first | refine g_mv hn ?_ | refine g_as hn ?_ | refine g_fd hn ?_ | refine g_ld hn ?_ | refine g_nc hn ?_ | refine g_nt hn ?_ | refine g_an hn ?_ | refine g_or hn ?_ | refine g_ln hn ?_ | refine g_ex hn ?_ | refine g_neq2 hn ?_ | refine g_neq hn ?_ | refine g_eql2 hn ?_ | refine g_eql hn ?_ | refine g_leq2 hn ?_ | refine g_leq hn ?_ | refine g_lss2 hn ?_ | refine g_lss hn ?_ | refine g_gtr2 hn ?_ | refine g_gtr hn ?_ | refine g_geq2 hn ?_ | refine g_geq hn ?_ | refine g_b0 hn ?_ | refine g_bn hn ?_ | refine g_bc hn ?_ | refine g_cv hn ?_ | refine g_ac hn ?_ | refine g_mc hn ?_
  refine fl_end ?_
  clear hn
  subst ha
  dsimp only [fr, cnd, Act.put, cond_true]
  simp only [List.setIfInBounds_toArray, List.set_cons_zero, List.set_cons_succ]
  have hbd : w1.heap[d]? = some (.map es clock) := (hb1.block d hdl).trans HB.out
  go_upto_region 2 with fail
  refine wp_region_lit ?_
  refine fl_start ?_
  generalize ha : Act.mk _ _ = a0
  have hn : a0.tmps.size = 19 := by rw [← ha]; kernel_rfl
  have h0 : (fr a0 []).eval (.tmp 0) = .map (some d) := by rw [← ha]; kernel_rfl
  refine fl_know hn rfl h0 ?_
  clear h0
  refine g_mv hn ?_
  refine g_w hn (w2 := w1.alloc (.mapIter (some d) clock #[] clock)) (v := .pointer (some ⟨w1.heap.size, 0, none⟩)) (fun hk => by unfold execOp; dsimp only; rw [lk_at hk (i := 7) rfl (fun _ => rfl) rfl, Sem.run_bind, run_range_map w1 78 _ _ d es clock mUnd hbd]; rfl) ?_
  have hit := heap_alloc_new w1 (.mapIter (some d) clock #[] clock)
  have hb2 := b0 w1 (.mapIter (some d) clock #[] clock)
  generalize w1.alloc (.mapIter (some d) clock #[] clock) = w2 at hit hb2 ⊢
  generalize hr : w1.heap.size = r at hit ⊢
  refine fl_end ?_
  clear hn
  subst ha
  dsimp only [fr, cnd, Act.put, cond_true]
  simp only [List.setIfInBounds_toArray, List.set_cons_zero, List.set_cons_succ]
  have HI : Hid (CopI tg0 k2 D W r d d2 es clock w2 [] #[] clock tg1 (fun _ => none)) := by
    refine ⟨hit, Nat.le_refl _, fun e _ h => by simp at h, ?_, htg, bt hb1 hb2, by rw [← hr]; exact hb1.size⟩
    rw [someD_nil]
    exact hm1'.below hb2
  clear hit hb1 hb2 hm1' htg hbd
  clear hdl
  go_wp2_with fail
  go_loopw [4, 5] (fun _ _ wr => ∃ ks seen c0 tg2 f2, Hid (CopI tg0 k2 D W r d d2 es clock wr ks seen c0 tg2 f2)) (fun _ _ wr => (leftOf es (seenAt wr r)).size)
  case atStart => exact ⟨_, _, _, _, _, HI⟩
  case round =>
    clear HI
    obtain ⟨ks, seen, c0, tg2, f2, hI⟩ := hrel
    have hbd : wr.heap[d]? = some (.map es clock) := (hI.out.bel.block d HD.out.mp.lt).trans HB.out
    rcases run_next_at (P := Tryd.prog) wr 0 r d clock c0 seen es clock hI.out.it hbd HS1.out hI.out.cle with ⟨hz, hrun⟩ | ⟨e, hel, w3, ho3, hit3, hrun⟩
    · have R : Hid (CopR tg0 k2 D W (.map (some d2)) wr) := cop_end (f := f) hI.out hz HD.out.no HK2.out
      clear hI hz hbd
      go_upto_region 3 with fail
      refine wp_region_lit ?_
      refine fl_start ?_
      generalize ha : Act.mk _ _ = a0
      have hn : a0.tmps.size = 19 := by rw [← ha]; kernel_rfl
      have h8 : (fr a0 []).eval (.tmp 8) = .pointer (some ⟨r, 0, none⟩) := by rw [← ha]; kernel_rfl
      refine fl_know hn rfl h8 ?_
      clear h8
      refine g_o1 hn (i := 8) (vi := .pointer (some ⟨r, 0, none⟩)) (v := .tuple #[.bool false]) (fun ρ h _ => by unfold execOp; dsimp only; rw [h, Sem.run_bind, next_ty _ _ 0, hrun]; rfl) ?_
      repeat first | refine g_mv hn ?_ | refine g_as hn ?_ | refine g_fd hn ?_ | refine g_ld hn ?_ | refine g_nc hn ?_ | refine g_nt hn ?_ | refine g_an hn ?_ | refine g_or hn ?_ | refine g_ln hn ?_ | refine g_ex hn ?_ | refine g_neq2 hn ?_ | refine g_neq hn ?_ | refine g_eql2 hn ?_ | refine g_eql hn ?_ | refine g_leq2 hn ?_ | refine g_leq hn ?_ | refine g_lss2 hn ?_ | refine g_lss hn ?_ | refine g_gtr2 hn ?_ | refine g_gtr hn ?_ | refine g_geq2 hn ?_ | refine g_geq hn ?_ | refine g_b0 hn ?_ | refine g_bn hn ?_ | refine g_bc hn ?_ | refine g_cv hn ?_ | refine g_ac hn ?_ | refine g_mc hn ?_
      refine fl_end ?_
      clear hn
      subst ha
      dsimp only [fr, cnd, Act.put, cond_true]
      simp only [List.setIfInBounds_toArray, List.set_cons_zero, List.set_cons_succ]
      clear hrun
      go_wp2_with fail
      go_ret
      exact ⟨_, rfl, R.out⟩
    · have he := (mem_left hel).1
      obtain ⟨n, hkey, hfn⟩ := HK1.out e he
      obtain ⟨c, g, hval, _, _, hDn, hmp, hl⟩ := HD.out.yes n e.val hfn
      have hen := run_entry_at (P := Tryd.prog) w3 r d clock seen es clock e hit3 ((ho3.block d (fun e => by rw [e, hI.out.it] at hbd; cases hbd)).trans hbd) he HS2.out
      rw [hkey, hval] at hrun hen
      have hlef := Lib.hid (left_shrinks es seen e hel)
      have hse := Lib.hid (seenAt_is hI.out.it)
      have hrd : r ≠ d2 := by
        intro e
        obtain ⟨_, _, hm, _⟩ := hI.out.dk.mp
        rw [← e, hI.out.it] at hm
        cases hm
      have hdk3 := hI.out.dk.maps (mapiter_maps hI.out.it ho3)
      have hmp3 : MpI w3 c (mpV g) := by
        have h1 := hmp.keep hI.out.bel hmp.lt
        obtain ⟨es2, cl2, hm, hr⟩ := h1
        exact ⟨es2, cl2, (mapiter_maps hI.out.it ho3 c es2 cl2 hm).trans hm, hr⟩
      have hbel3 := hI.out.bel.trans (ho3.below hI.out.rlo)
      go_upto_region 3 with fail
      refine wp_region_lit ?_
      refine fl_start ?_
      generalize ha : Act.mk _ _ = a0
      have hn : a0.tmps.size = 19 := by rw [← ha]; kernel_rfl
      have h8 : (fr a0 []).eval (.tmp 8) = .pointer (some ⟨r, 0, none⟩) := by rw [← ha]; kernel_rfl
      refine fl_know hn rfl h8 ?_
      clear h8
      refine g_w hn (w2 := w3) (v := .tuple #[.bool true, .int .i64 n, .map (some c)]) (fun hk => by unfold execOp; dsimp only; rw [lk_at hk (i := 8) rfl (fun _ => rfl) rfl, Sem.run_bind, next_ty _ _ 0, hrun]; rfl) ?_
      repeat first | refine g_mv hn ?_ | refine g_as hn ?_ | refine g_fd hn ?_ | refine g_ld hn ?_ | refine g_nc hn ?_ | refine g_nt hn ?_ | refine g_an hn ?_ | refine g_or hn ?_ | refine g_ln hn ?_ | refine g_ex hn ?_ | refine g_neq2 hn ?_ | refine g_neq hn ?_ | refine g_eql2 hn ?_ | refine g_eql hn ?_ | refine g_leq2 hn ?_ | refine g_leq hn ?_ | refine g_lss2 hn ?_ | refine g_lss hn ?_ | refine g_gtr2 hn ?_ | refine g_gtr hn ?_ | refine g_geq2 hn ?_ | refine g_geq hn ?_ | refine g_b0 hn ?_ | refine g_bn hn ?_ | refine g_bc hn ?_ | refine g_cv hn ?_ | refine g_ac hn ?_ | refine g_mc hn ?_
      refine fl_end ?_
      clear hn
      subst ha
      dsimp only [fr, cnd, Act.put, cond_true]
      simp only [List.setIfInBounds_toArray, List.set_cons_zero, List.set_cons_succ]
      clear hrun hbd ho3
      go_upto_region 4 with fail
      refine wp_region_lit ?_
      refine fl_start ?_
      generalize ha : Act.mk _ _ = a0
      have hn : a0.tmps.size = 19 := by rw [← ha]; kernel_rfl
      have h8 : (fr a0 []).eval (.tmp 8) = .pointer (some ⟨r, 0, none⟩) := by rw [← ha]; kernel_rfl
      refine fl_know hn rfl h8 ?_
      clear h8
      refine g_o1 hn (i := 8) (vi := .pointer (some ⟨r, 0, none⟩)) (v := .tuple #[.int .i64 n, .map (some c)]) (fun ρ h _ => by unfold execOp; dsimp only; rw [h, Sem.run_bind, hen]; rfl) ?_
      repeat first | refine g_mv hn ?_ | refine g_as hn ?_ | refine g_fd hn ?_ | refine g_ld hn ?_ | refine g_nc hn ?_ | refine g_nt hn ?_ | refine g_an hn ?_ | refine g_or hn ?_ | refine g_ln hn ?_ | refine g_ex hn ?_ | refine g_neq2 hn ?_ | refine g_neq hn ?_ | refine g_eql2 hn ?_ | refine g_eql hn ?_ | refine g_leq2 hn ?_ | refine g_leq hn ?_ | refine g_lss2 hn ?_ | refine g_lss hn ?_ | refine g_gtr2 hn ?_ | refine g_gtr hn ?_ | refine g_geq2 hn ?_ | refine g_geq hn ?_ | refine g_b0 hn ?_ | refine g_bn hn ?_ | refine g_bc hn ?_ | refine g_cv hn ?_ | refine g_ac hn ?_ | refine g_mc hn ?_
      refine fl_end ?_
      clear hn
      subst ha
      dsimp only [fr, cnd, Act.put, cond_true]
      simp only [List.setIfInBounds_toArray, List.set_cons_zero, List.set_cons_succ]
      clear hen
      go_upto_region 5 with fail
      refine wp_region_lit ?_
      refine fl_start ?_
      generalize ha : Act.mk _ _ = a0
      have hn : a0.tmps.size = 19 := by rw [← ha]; kernel_rfl
      have h3 : (fr a0 []).eval (.tmp 3) = .map (some d2) := by rw [← ha]; kernel_rfl
      refine fl_know hn rfl h3 ?_
      clear h3
      have h4 : (fr a0 [(3, true, .map (some d2))]).eval (.tmp 4) = .int .i64 n := by rw [← ha]; kernel_rfl
      refine fl_know hn rfl h4 ?_
      clear h4
      have h5 : (fr a0 [(4, true, .int .i64 n), (3, true, .map (some d2))]).eval (.tmp 5) = .map (some c) := by rw [← ha]; kernel_rfl
      refine fl_know hn rfl h5 ?_
      clear h5
      repeat first | refine g_mv hn ?_ | refine g_as hn ?_ | refine g_fd hn ?_ | refine g_ld hn ?_ | refine g_nc hn ?_ | refine g_nt hn ?_ | refine g_an hn ?_ | refine g_or hn ?_ | refine g_ln hn ?_ | refine g_ex hn ?_ | refine g_neq2 hn ?_ | refine g_neq hn ?_ | refine g_eql2 hn ?_ | refine g_eql hn ?_ | refine g_leq2 hn ?_ | refine g_leq hn ?_ | refine g_lss2 hn ?_ | refine g_lss hn ?_ | refine g_gtr2 hn ?_ | refine g_gtr hn ?_ | refine g_geq2 hn ?_ | refine g_geq hn ?_ | refine g_b0 hn ?_ | refine g_bn hn ?_ | refine g_bc hn ?_ | refine g_cv hn ?_ | refine g_ac hn ?_ | refine g_mc hn ?_
      refine g_c1x enters_Clone hn (clone_mpi c (mpV g) w3 hmp3) ?_
      rintro v w4 ⟨rfl, hm4, hb4, hs4⟩
      generalize hc4 : w3.heap.size = c4 at hm4 ⊢
      have htn : ∀ x, x < w3.heap.size → tgN tg2 c4 (k2 + 2, n) x = tg2 x := fun x hx => tgN_ne _ _ (by omega)
      have hdk4 := hdk3.keep (W' := w4) htn fun x hx _ => hb4.block x hx
      have hit4 := (hb4.block r (Array.getElem?_eq_some_iff.1 hit3).1).trans hit3
      obtain ⟨w5, hr5, ho5, hm5⟩ := run_putI (P := Tryd.prog) mUnd iUnd hdk4.mp n (.map (some c4))
      refine g_mu hr5 ?_
      refine fl_end ?_
      clear hn
      subst ha
      dsimp only [fr, cnd, Act.put, cond_true]
      simp only [List.setIfInBounds_toArray, List.set_cons_zero, List.set_cons_succ]
      have hdk5 := hdk4.more ho5 hm5 hm4 (tgN_at _ _ _) (by rw [← hc4]; exact hbel3.size) hDn hl
      have hit5 := (ho5.block r hrd).trans hit4
      have hI5 : Hid (CopI tg0 k2 D W r d d2 es clock w5 (n :: ks) (seen.push e.born) clock (tgN tg2 c4 (k2 + 2, n)) (upd f2 n (some (.map (some c4))))) := by
        refine ⟨hit5, Nat.le_refl _, fun e2 he2 hse2 => ?_, hdk5, fun x hx => (htn x (Nat.lt_of_lt_of_le hx hbel3.size)).trans (hI.out.tg x hx), (hbel3.trans (hb4.mono hbel3.size)).trans (ho5.below hdk4.lo), hI.out.rlo⟩
        rw [contains_push, Bool.or_eq_true, beq_iff_eq] at hse2
        rcases hse2 with h1 | h1
        · obtain ⟨n2, h2, h3⟩ := hI.out.kd e2 he2 h1
          exact ⟨n2, List.mem_cons_of_mem _ h2, h3⟩
        · have h2 := find_born e2 es.toList HS2.out he2
          have h3 := find_born e es.toList HS2.out he
          rw [h1] at h2
          have h4 : e2 = e := by
            rw [h3] at h2
            injection h2 with h2
            exact h2.symm
          rw [h4]
          exact ⟨n, List.mem_cons_self .., hkey⟩
      have hse5 := Lib.hid (seenAt_is hit5)
      clear hdk3 hmp3 hm4 hdk4 hit4 hr5 hm5 hdk5 hit5 hI hkey hfn hval hmp hb4 hit3
      go_wp2_with fail
      go_roundw
      case rel => exact ⟨_, _, _, _, _, hI5⟩
      case measure =>
        rw [hse5.out, hse.out]
        exact hlef.out
end Go.Proofs.YtgbopikhdpmmcaaDoor
