/-
  WHAT IS PROVED: slate's Blocks. Conditions: those typed in each theorem.
-/
import Derived.Test.YtfpfalgbkbmkeaaDoorSlCopy
namespace Go.Proofs.YtfpfalgbkbmkeaaDoor
open Go.RowKit Go.MapKept

/-- One more than the greatest number, or 0. -/
def BlkN (D : Dk) (f : Int) (z : Int) : Prop := 0 ≤ z ∧ (∀ g m l, D f = some g → g m = some l → m < z) ∧ (z = 0 ∨ ∃ g m l, D f = some g ∧ g m = some l ∧ z = m + 1)
theorem run_next_nil (P : Program) (W : World) (ty : TypeId) (r a b : Nat) (s : Array Nat) (hi : W.heap[r]? = some (.mapIter none a s b)) : (Instr.next (.pointer (some ⟨r, 0, none⟩)) false ty).run P W = .ok (.tuple #[.bool false]) W := by
  simp only [Instr.next, getObj, Sem.run_bind, Sem.run, hi, Result.andThen]
  rfl
theorem x_max {P : Program} {w : World} {i j : Nat} {ts : Array TypeId} {d : Option Tmp} {ty : TypeId} {p : String} {af : Array Edge} {gd : Option (Nat × Bool)} {ρ : Operand → Value} {x y : Int} (h1 : ρ (.tmp i) = .int .i64 x) (h2 : ρ (.tmp j) = .int .i64 y) : (execOp ρ ⟨d, .call { callee := .builtin .max, args := #[.tmp i, .tmp j], argTypes := ts }, ty, p, af, gd⟩).run P w = .ok (.value (.int .i64 (if y > x then y else x))) w := by
  unfold execOp
  dsimp only
  go_simp
structure BlI (c r : Nat) (es : Array MapEntry) (clock : Nat) (W wr : World) (z : Int) (seen : Array Nat) (c0 : Nat) : Prop where
  it : wr.heap[r]? = some (.mapIter (some c) clock seen c0)
  cle : clock ≤ c0
  kd : ∀ e n, e ∈ es.toList → seen.contains e.born = true → e.key = .int .i64 n → n ≤ z
  z1 : -1 ≤ z
  z2 : z = -1 ∨ ∃ e, e ∈ es.toList ∧ e.key = .int .i64 z
  bel : Below W.heap.size W wr
  rlo : W.heap.size ≤ r
theorem enters_Blocks : ∀ args w, (callFunc 20 args).run Tryd.prog w = .ok (.enter 20 args) w := enters_of Tryd.func20 (by kernel_rfl) rfl

set_option maxRecDepth 100000 in
set_option maxHeartbeats 4000000 in
theorem blocks_any (B s : Nat) (M : Sl) (f : Int) (W : World) (hR : SlR B W s M) (hbd : ∀ g m l, M.seen f = some g → g m = some l → 0 ≤ m ∧ m < 1024) : Calls Tryd.prog 20 #[.pointer (some ⟨s, 0, none⟩), .int .i64 f] W fun e W' => ∃ v, e = .returned v ∧ (∃ z : Int, v = .int .i64 z ∧ BlkN M.seen f z) ∧ Below W.heap.size W W' := by
  obtain ⟨tg, d1, d2, f1, f2, A, n, c, hX, _, _, hD2, _⟩ := hR
  have a1 := sl_a1 W s
  have l1 := sl_l1 hX
  have lk := run_lookI (P := Tryd.prog) mUnd iUnd (zM W) hD2.mp f
  go_enter Tryd.func20, Tryd.ntmps20
  cases hf : f2 f with
  | none =>
    have hno := Lib.hid (hD2.no f hf)
    rw [hf, Option.getD_none] at lk
    clear hD2 hX hbd
    go_upto_region 2 with fail
    refine wp_region_lit ?_
    refine fl_start ?_
    generalize ha : Act.mk _ _ = a0
    have hn : a0.tmps.size = 23 := by rw [← ha]; kernel_rfl
    have h0 : (fr a0 []).eval (.tmp 0) = .pointer (some ⟨s, 0, none⟩) := by rw [← ha]; kernel_rfl
    refine fl_know hn rfl h0 ?_
    clear h0
    have h1 : (fr a0 [(0, true, .pointer (some ⟨s, 0, none⟩))]).eval (.tmp 1) = .int .i64 f := by rw [← ha]; kernel_rfl
    refine fl_know hn rfl h1 ?_
    clear h1
    repeat first | refine g_mv hn ?_ | refine g_as hn ?_ | refine g_lk hn ?_ | refine g_fd hn ?_ | refine g_ld hn ?_ | refine g_nc hn ?_ | refine g_nt hn ?_ | refine g_an hn ?_ | refine g_or hn ?_ | refine g_ln hn ?_ | refine g_ex hn ?_ | refine g_neq2 hn ?_ | refine g_neq hn ?_ | refine g_eql2 hn ?_ | refine g_eql hn ?_ | refine g_leq2 hn ?_ | refine g_leq hn ?_ | refine g_lss2 hn ?_ | refine g_lss hn ?_ | refine g_gtr2 hn ?_ | refine g_gtr hn ?_ | refine g_geq2 hn ?_ | refine g_geq hn ?_ | refine g_b0 hn ?_ | refine g_bn hn ?_ | refine g_bc hn ?_ | refine g_cv hn ?_ | refine g_ac hn ?_ | refine g_mc hn ?_
    refine g_w hn (w2 := W.alloc (.mapIter none 0 #[] 0)) (v := .pointer (some ⟨W.heap.size, 0, none⟩)) (fun hk => by unfold execOp; dsimp only; rw [lk_at hk (i := 12) rfl (fun _ => rfl) rfl, Sem.run_bind, run_range_nilMap W 67 _ _ mUnd2]; rfl) ?_
    have hit := heap_alloc_new W (.mapIter none 0 #[] 0)
    have hb := Lib.hid (b0 W (.mapIter none 0 #[] 0))
    generalize W.alloc (.mapIter none 0 #[] 0) = w2 at hit hb ⊢
    generalize hr : W.heap.size = r at hit ⊢
    refine fl_end ?_
    clear hn
    subst ha
    dsimp only [fr, cnd, Act.put, cond_true]
    simp only [List.setIfInBounds_toArray, List.set_cons_zero, List.set_cons_succ]
    clear a1 l1 lk
    have hrun := run_next_nil Tryd.prog w2 0 r 0 0 #[] hit
    go_wp2_with fail
    go_loopw [5, 6] (fun v _ wr => v = .int .i64 (-1) ∧ wr = w2) (fun _ _ _ => 0)
    case atStart => exact ⟨rfl, rfl⟩
    case round =>
      obtain ⟨rfl, rfl⟩ := hrel
      go_upto_region 3 with fail
      refine wp_region_lit ?_
      refine fl_start ?_
      generalize ha : Act.mk _ _ = a0
      have hn : a0.tmps.size = 23 := by rw [← ha]; kernel_rfl
      have h13 : (fr a0 []).eval (.tmp 13) = .pointer (some ⟨r, 0, none⟩) := by rw [← ha]; kernel_rfl
      refine fl_know hn rfl h13 ?_
      clear h13
      refine g_o1 hn (i := 13) (vi := .pointer (some ⟨r, 0, none⟩)) (v := .tuple #[.bool false]) (fun ρ h _ => by unfold execOp; dsimp only; rw [h, Sem.run_bind, next_ty _ _ 0, hrun]; rfl) ?_
      repeat first | refine g_mv hn ?_ | refine g_as hn ?_ | refine g_fd hn ?_ | refine g_ld hn ?_ | refine g_nc hn ?_ | refine g_nt hn ?_ | refine g_an hn ?_ | refine g_or hn ?_ | refine g_ln hn ?_ | refine g_ex hn ?_ | refine g_neq2 hn ?_ | refine g_neq hn ?_ | refine g_eql2 hn ?_ | refine g_eql hn ?_ | refine g_leq2 hn ?_ | refine g_leq hn ?_ | refine g_lss2 hn ?_ | refine g_lss hn ?_ | refine g_gtr2 hn ?_ | refine g_gtr hn ?_ | refine g_geq2 hn ?_ | refine g_geq hn ?_ | refine g_b0 hn ?_ | refine g_bn hn ?_ | refine g_bc hn ?_ | refine g_cv hn ?_ | refine g_ac hn ?_ | refine g_mc hn ?_
      refine fl_end ?_
      clear hn
      subst ha
      dsimp only [fr, cnd, Act.put, cond_true]
      simp only [List.setIfInBounds_toArray, List.set_cons_zero, List.set_cons_succ]
      clear hrun hit
      go_wp2_with fail
      go_ret
      exact ⟨_, rfl, ⟨0, rfl, Int.le_refl _, (fun g m l h => by rw [hno.out] at h; cases h), .inl rfl⟩, hb.out⟩
  | some v =>
    obtain ⟨c9, g, rfl, _, _, hDg, hmp, hl⟩ := hD2.yes f v hf
    rw [hf, Option.getD_some] at lk
    have hcl := hmp.lt
    obtain ⟨es, clock, hb9, ⟨hst1, hst2, _⟩, hk1, hk2⟩ := id hmp
    have HB := Lib.hid hb9
    have HDg := Lib.hid hDg
    have HS1 := Lib.hid hst1
    have HS2 := Lib.hid hst2
    have HK1 : Hid (∀ e, e ∈ es.toList → ∃ n l, e.key = .int .i64 n ∧ g n = some l) := fun e he => by
      obtain ⟨n, h1, h2⟩ := hk1 e he
      unfold mpV at h2
      cases hg : g n with
      | none => rw [hg] at h2; cases h2
      | some l => exact ⟨n, l, h1, hg⟩
    have HK2 : Hid (∀ n l, g n = some l → ∃ e, e ∈ es.toList ∧ e.key = .int .i64 n) := fun n l h => by
      obtain ⟨e, h1, h2, _⟩ := hk2 n (.agg (bkA l)) (by unfold mpV; rw [h]; rfl)
      exact ⟨e, h1, h2⟩
    have HBd : Hid (∀ m l, g m = some l → 0 ≤ m ∧ m < 1024) := fun m l h => hbd g m l hDg h
    clear hst1 hst2 hk1 hk2 hbd hDg hD2 hX hmp hl
    go_upto_region 2 with fail
    refine wp_region_lit ?_
    refine fl_start ?_
    generalize ha : Act.mk _ _ = a0
    have hn : a0.tmps.size = 23 := by rw [← ha]; kernel_rfl
    have h0 : (fr a0 []).eval (.tmp 0) = .pointer (some ⟨s, 0, none⟩) := by rw [← ha]; kernel_rfl
    refine fl_know hn rfl h0 ?_
    clear h0
    have h1 : (fr a0 [(0, true, .pointer (some ⟨s, 0, none⟩))]).eval (.tmp 1) = .int .i64 f := by rw [← ha]; kernel_rfl
    refine fl_know hn rfl h1 ?_
    clear h1
    repeat first | refine g_mv hn ?_ | refine g_as hn ?_ | refine g_lk hn ?_ | refine g_fd hn ?_ | refine g_ld hn ?_ | refine g_nc hn ?_ | refine g_nt hn ?_ | refine g_an hn ?_ | refine g_or hn ?_ | refine g_ln hn ?_ | refine g_ex hn ?_ | refine g_neq2 hn ?_ | refine g_neq hn ?_ | refine g_eql2 hn ?_ | refine g_eql hn ?_ | refine g_leq2 hn ?_ | refine g_leq hn ?_ | refine g_lss2 hn ?_ | refine g_lss hn ?_ | refine g_gtr2 hn ?_ | refine g_gtr hn ?_ | refine g_geq2 hn ?_ | refine g_geq hn ?_ | refine g_b0 hn ?_ | refine g_bn hn ?_ | refine g_bc hn ?_ | refine g_cv hn ?_ | refine g_ac hn ?_ | refine g_mc hn ?_
    refine g_w hn (w2 := W.alloc (.mapIter (some c9) clock #[] clock)) (v := .pointer (some ⟨W.heap.size, 0, none⟩)) (fun hk => by unfold execOp; dsimp only; rw [lk_at hk (i := 12) rfl (fun _ => rfl) rfl, Sem.run_bind, run_range_map W 67 _ _ c9 es clock mUnd2 hb9]; rfl) ?_
    have hit := heap_alloc_new W (.mapIter (some c9) clock #[] clock)
    have hb := b0 W (.mapIter (some c9) clock #[] clock)
    generalize W.alloc (.mapIter (some c9) clock #[] clock) = w2 at hit hb ⊢
    have hrW : W.heap.size ≤ W.heap.size := Nat.le_refl _
    generalize hr : W.heap.size = r at hit ⊢
    refine fl_end ?_
    clear hn
    subst ha
    dsimp only [fr, cnd, Act.put, cond_true]
    simp only [List.setIfInBounds_toArray, List.set_cons_zero, List.set_cons_succ]
    have HI : Hid (BlI c9 r es clock W w2 (-1) #[] clock) := ⟨hit, Nat.le_refl _, fun e n _ h => by simp at h, Int.le_refl _, .inl rfl, hb, Nat.le_of_eq hr⟩
    clear a1 l1 lk hit hb hb9 hrW
    go_wp2_with fail
    go_loopw [5, 6] (fun v _ wr => ∃ (z : Int) (seen : Array Nat) (c0 : Nat), v = .int .i64 z ∧ Hid (BlI c9 r es clock W wr z seen c0)) (fun _ _ wr => (leftOf es (seenAt wr r)).size)
    case atStart => exact ⟨_, _, _, rfl, HI⟩
    case round =>
      clear HI
      obtain ⟨z, seen, c0, rfl, hI⟩ := hrel
      have hbc : wr.heap[c9]? = some (.map es clock) := (hI.out.bel.block c9 hcl).trans HB.out
      rcases run_next_at (P := Tryd.prog) wr 0 r c9 clock c0 seen es clock hI.out.it hbc HS1.out hI.out.cle with ⟨hz, hrun⟩ | ⟨e, hel, w3, ho3, hit3, hrun⟩
      · have hall : ∀ e, e ∈ es.toList → seen.contains e.born = true := fun e he => by
          cases hc : seen.contains e.born with
          | true => rfl
          | false =>
            have : e ∈ leftOf es seen := by
              unfold leftOf
              rw [Array.mem_filter]
              exact ⟨by simpa using he, by rw [hc]; rfl⟩
            rw [Array.eq_empty_of_size_eq_zero hz] at this
            simp at this
        have hz1 : -1 ≤ z ∧ z < 1024 := by
          refine ⟨hI.out.z1, ?_⟩
          rcases hI.out.z2 with h | ⟨e, he, hk⟩
          · omega
          · obtain ⟨n, l, h1, h2⟩ := HK1.out e he
            have := HBd.out n l h2
            rw [hk] at h1
            have := key_int h1
            omega
        have R : Hid (BlkN M.seen f (z + 1)) := by
          refine ⟨by omega, fun g2 m l h1 h2 => ?_, ?_⟩
          · rw [HDg.out] at h1
            injection h1 with h1
            subst h1
            obtain ⟨e, he, hk⟩ := HK2.out m l h2
            have := hI.out.kd e m he (hall e he) hk
            omega
          · rcases hI.out.z2 with h | ⟨e, he, hk⟩
            · exact .inl (by omega)
            · obtain ⟨n, l, h1, h2⟩ := HK1.out e he
              rw [hk] at h1
              exact .inr ⟨g, n, l, HDg.out, h2, by have := key_int h1; omega⟩
        have hBe := Lib.hid hI.out.bel
        clear hI hbc hall hz
        go_upto_region 3 with fail
        refine wp_region_lit ?_
        refine fl_start ?_
        generalize ha : Act.mk _ _ = a0
        have hn : a0.tmps.size = 23 := by rw [← ha]; kernel_rfl
        have h13 : (fr a0 []).eval (.tmp 13) = .pointer (some ⟨r, 0, none⟩) := by rw [← ha]; kernel_rfl
        refine fl_know hn rfl h13 ?_
        clear h13
        refine g_o1 hn (i := 13) (vi := .pointer (some ⟨r, 0, none⟩)) (v := .tuple #[.bool false]) (fun ρ h _ => by unfold execOp; dsimp only; rw [h, Sem.run_bind, next_ty _ _ 0, hrun]; rfl) ?_
        repeat first | refine g_mv hn ?_ | refine g_as hn ?_ | refine g_fd hn ?_ | refine g_ld hn ?_ | refine g_nc hn ?_ | refine g_nt hn ?_ | refine g_an hn ?_ | refine g_or hn ?_ | refine g_ln hn ?_ | refine g_ex hn ?_ | refine g_neq2 hn ?_ | refine g_neq hn ?_ | refine g_eql2 hn ?_ | refine g_eql hn ?_ | refine g_leq2 hn ?_ | refine g_leq hn ?_ | refine g_lss2 hn ?_ | refine g_lss hn ?_ | refine g_gtr2 hn ?_ | refine g_gtr hn ?_ | refine g_geq2 hn ?_ | refine g_geq hn ?_ | refine g_b0 hn ?_ | refine g_bn hn ?_ | refine g_bc hn ?_ | refine g_cv hn ?_ | refine g_ac hn ?_ | refine g_mc hn ?_
        refine fl_end ?_
        clear hn
        subst ha
        dsimp only [fr, cnd, Act.put, cond_true]
        simp only [List.setIfInBounds_toArray, List.set_cons_zero, List.set_cons_succ]
        clear hrun
        obtain ⟨hz1, hz2⟩ := hz1
        have hw : IntKind.i64.wrap (z + 1) = z + 1 := by unfold IntKind.wrap; simp [IntKind.bits, IntKind.signed]; omega
        go_wp2_with fail
        go_ret
        exact ⟨_, rfl, ⟨z + 1, rfl, R.out⟩, hBe.out⟩
      · have he := (mem_left hel).1
        obtain ⟨n, l, hkey, hgn⟩ := HK1.out e he
        have hen := run_entry_at (P := Tryd.prog) w3 r c9 clock seen es clock e hit3 ((ho3.block c9 (fun e => by rw [e, hI.out.it] at hbc; cases hbc)).trans hbc) he HS2.out
        rw [hkey] at hrun hen
        have hlef := Lib.hid (left_shrinks es seen e hel)
        have hse := Lib.hid (seenAt_is hI.out.it)
        have hse5 := Lib.hid (seenAt_is hit3)
        have hI5 : Hid (BlI c9 r es clock W w3 (if n > z then n else z) (seen.push e.born) clock) := by
          refine ⟨hit3, Nat.le_refl _, fun e2 n2 he2 hse2 hk2 => ?_, ?_, ?_, hI.out.bel.trans (ho3.below hI.out.rlo), hI.out.rlo⟩
          · rw [contains_push, Bool.or_eq_true, beq_iff_eq] at hse2
            rcases hse2 with h1 | h1
            · have := hI.out.kd e2 n2 he2 h1 hk2
              split <;> omega
            · have h2 := find_born e2 es.toList HS2.out he2
              have h3 := find_born e es.toList HS2.out he
              rw [h1] at h2
              have h4 : e2 = e := by
                rw [h3] at h2
                injection h2 with h2
                exact h2.symm
              rw [h4, hkey] at hk2
              have := key_int hk2
              split <;> omega
          · have := hI.out.z1
            split <;> omega
          · split
            · exact .inr ⟨e, he, hkey⟩
            · exact hI.out.z2
        clear hI hbc ho3 hit3
        go_upto_region 3 with fail
        refine wp_region_lit ?_
        refine fl_start ?_
        generalize ha : Act.mk _ _ = a0
        have hn : a0.tmps.size = 23 := by rw [← ha]; kernel_rfl
        have h13 : (fr a0 []).eval (.tmp 13) = .pointer (some ⟨r, 0, none⟩) := by rw [← ha]; kernel_rfl
        refine fl_know hn rfl h13 ?_
        clear h13
        refine g_w hn (w2 := w3) (v := .tuple #[.bool true, .int .i64 n, e.val]) (fun hk => by unfold execOp; dsimp only; rw [lk_at hk (i := 13) rfl (fun _ => rfl) rfl, Sem.run_bind, next_ty _ _ 0, hrun]; rfl) ?_
        repeat first | refine g_mv hn ?_ | refine g_as hn ?_ | refine g_fd hn ?_ | refine g_ld hn ?_ | refine g_nc hn ?_ | refine g_nt hn ?_ | refine g_an hn ?_ | refine g_or hn ?_ | refine g_ln hn ?_ | refine g_ex hn ?_ | refine g_neq2 hn ?_ | refine g_neq hn ?_ | refine g_eql2 hn ?_ | refine g_eql hn ?_ | refine g_leq2 hn ?_ | refine g_leq hn ?_ | refine g_lss2 hn ?_ | refine g_lss hn ?_ | refine g_gtr2 hn ?_ | refine g_gtr hn ?_ | refine g_geq2 hn ?_ | refine g_geq hn ?_ | refine g_b0 hn ?_ | refine g_bn hn ?_ | refine g_bc hn ?_ | refine g_cv hn ?_ | refine g_ac hn ?_ | refine g_mc hn ?_
        refine fl_end ?_
        clear hn
        subst ha
        dsimp only [fr, cnd, Act.put, cond_true]
        simp only [List.setIfInBounds_toArray, List.set_cons_zero, List.set_cons_succ]
        clear hrun
        go_upto_region 4 with fail
        refine wp_region_lit ?_
        refine fl_start ?_
        generalize ha : Act.mk _ _ = a0
        have hn : a0.tmps.size = 23 := by rw [← ha]; kernel_rfl
        have h13 : (fr a0 []).eval (.tmp 13) = .pointer (some ⟨r, 0, none⟩) := by rw [← ha]; kernel_rfl
        refine fl_know hn rfl h13 ?_
        clear h13
        refine g_o1 hn (i := 13) (vi := .pointer (some ⟨r, 0, none⟩)) (v := .tuple #[.int .i64 n, e.val]) (fun ρ h _ => by unfold execOp; dsimp only; rw [h, Sem.run_bind, hen]; rfl) ?_
        repeat first | refine g_mv hn ?_ | refine g_as hn ?_ | refine g_fd hn ?_ | refine g_ld hn ?_ | refine g_nc hn ?_ | refine g_nt hn ?_ | refine g_an hn ?_ | refine g_or hn ?_ | refine g_ln hn ?_ | refine g_ex hn ?_ | refine g_neq2 hn ?_ | refine g_neq hn ?_ | refine g_eql2 hn ?_ | refine g_eql hn ?_ | refine g_leq2 hn ?_ | refine g_leq hn ?_ | refine g_lss2 hn ?_ | refine g_lss hn ?_ | refine g_gtr2 hn ?_ | refine g_gtr hn ?_ | refine g_geq2 hn ?_ | refine g_geq hn ?_ | refine g_b0 hn ?_ | refine g_bn hn ?_ | refine g_bc hn ?_ | refine g_cv hn ?_ | refine g_ac hn ?_ | refine g_mc hn ?_
        refine fl_end ?_
        clear hn
        subst ha
        dsimp only [fr, cnd, Act.put, cond_true]
        simp only [List.setIfInBounds_toArray, List.set_cons_zero, List.set_cons_succ]
        clear hen
        go_upto_region 5 with fail
        refine wp_region_lit ?_
        refine fl_start ?_
        generalize ha : Act.mk _ _ = a0
        have hn : a0.tmps.size = 23 := by rw [← ha]; kernel_rfl
        have h5 : (fr a0 []).eval (.tmp 5) = .int .i64 z := by rw [← ha]; kernel_rfl
        refine fl_know hn rfl h5 ?_
        clear h5
        have h6 : (fr a0 [(5, true, .int .i64 z)]).eval (.tmp 6) = .int .i64 n := by rw [← ha]; kernel_rfl
        refine fl_know hn rfl h6 ?_
        clear h6
        repeat first | refine g_mv hn ?_ | refine g_as hn ?_ | refine g_fd hn ?_ | refine g_ld hn ?_ | refine g_nc hn ?_ | refine g_nt hn ?_ | refine g_an hn ?_ | refine g_or hn ?_ | refine g_ln hn ?_ | refine g_ex hn ?_ | refine g_neq2 hn ?_ | refine g_neq hn ?_ | refine g_eql2 hn ?_ | refine g_eql hn ?_ | refine g_leq2 hn ?_ | refine g_leq hn ?_ | refine g_lss2 hn ?_ | refine g_lss hn ?_ | refine g_gtr2 hn ?_ | refine g_gtr hn ?_ | refine g_geq2 hn ?_ | refine g_geq hn ?_ | refine g_b0 hn ?_ | refine g_bn hn ?_ | refine g_bc hn ?_ | refine g_cv hn ?_ | refine g_ac hn ?_ | refine g_mc hn ?_
        refine g_o2 hn (i := 18) (j := 19) (vi := .int .i64 z) (vj := .int .i64 n) (v := .int .i64 (if n > z then n else z)) (fun ρ h1 h2 _ => x_max h1 h2) ?_
        repeat first | refine g_mv hn ?_ | refine g_as hn ?_ | refine g_fd hn ?_ | refine g_ld hn ?_ | refine g_nc hn ?_ | refine g_nt hn ?_ | refine g_an hn ?_ | refine g_or hn ?_ | refine g_ln hn ?_ | refine g_ex hn ?_ | refine g_neq2 hn ?_ | refine g_neq hn ?_ | refine g_eql2 hn ?_ | refine g_eql hn ?_ | refine g_leq2 hn ?_ | refine g_leq hn ?_ | refine g_lss2 hn ?_ | refine g_lss hn ?_ | refine g_gtr2 hn ?_ | refine g_gtr hn ?_ | refine g_geq2 hn ?_ | refine g_geq hn ?_ | refine g_b0 hn ?_ | refine g_bn hn ?_ | refine g_bc hn ?_ | refine g_cv hn ?_ | refine g_ac hn ?_ | refine g_mc hn ?_
        refine fl_end ?_
        clear hn
        subst ha
        dsimp only [fr, cnd, Act.put, cond_true]
        simp only [List.setIfInBounds_toArray, List.set_cons_zero, List.set_cons_succ]
        clear hkey hgn
        generalize (if n > z then n else z) = z2 at hI5 ⊢
        go_wp2_with fail
        go_roundw
        case rel => exact ⟨z2, _, _, rfl, hI5⟩
        case measure =>
          rw [hse5.out, hse.out]
          exact hlef.out
end Go.Proofs.YtfpfalgbkbmkeaaDoor
