/-
  WHAT IS PROVED: slices.DeleteFunc of writes, upon a row of one's own. Conditions: those typed in each theorem. · slate's forget; a step, of a slate as a whole; Remove. Conditions: those typed in each theorem. · a step, of a slate as a whole; Remove. Conditions: those typed in each theorem.
-/
import Derived.Test.YtjbmhbnlanbbkaaDoorGQ4
namespace Go.Proofs.YtjbmhbnlanbbkaaDoor
open Go.RowKit

abbrev notP (p : Pw → Bool) (l : List Pw) : List Pw := l.filter fun x => !p x
/-- How a row is on its way. -/
structure DelI (r c : Nat) (p : Pw → Bool) (l : List Pw) (q : List (Nat × Int)) (w : World) (j i : Nat) (m : List Pw) (wr : World) : Prop where
  len : m.length = l.length
  l6 : ∀ x, x ∈ m → x.l.length = 64
  hd : m.take i = notP p (l.take j)
  tl : m.drop j = l.drop j
  row : ∃ cur, Blk wr r cur 61 ∧ RowC cur c m
  gr : w.grownBy wr (some r)
  rl : r < w.heap.size
  cp : CapK q wr
theorem notp_no {p : Pw → Bool} {l : List Pw} (h : ∀ x, x ∈ l → p x = false) : notP p l = l := List.filter_eq_self.2 fun x hx => by rw [h x hx]; rfl
theorem notp_add {p : Pw → Bool} {l : List Pw} {j : Nat} {x : Pw} (hx : l[j]? = some x) : notP p (l.take (j + 1)) = notP p (l.take j) ++ (if p x then [] else [x]) := by
  unfold notP
  rw [List.take_add_one, hx, List.filter_append]
  cases h : p x <;> simp [h]
theorem gr_only {w a b : World} {r : Nat} (h : w.grownBy a (some r)) (ho : Only1 r a b) : w.grownBy b (some r) := ⟨ho.os.trans h.os, ho.tape.trans h.tape, ho.output.trans h.output, by rw [ho.size]; exact h.size, fun k hk hne => (ho.block k (fun e => hne (by rw [e]))).trans (h.block k hk hne)⟩
theorem gr_below {w a b : World} {r : Nat} (h : w.grownBy a (some r)) (hb : Below a.heap.size a b) : w.grownBy b (some r) := ⟨hb.os.trans h.os, hb.tape.trans h.tape, hb.output.trans h.output, Nat.le_trans h.size hb.size, fun k hk hne => (hb.block k (Nat.lt_of_lt_of_le hk h.size)).trans (h.block k hk hne)⟩
theorem DelI.at_j {r c : Nat} {p : Pw → Bool} {l : List Pw} {q : List (Nat × Int)} {w : World} {j i : Nat} {m : List Pw} {wr : World} (h : DelI r c p l q w j i m wr) {x : Pw} (hx : l[j]? = some x) : m[j]? = some x := by
  have e := congrArg (fun t : List Pw => t[0]?) h.tl
  simp only [List.getElem?_drop, Nat.add_zero] at e
  rw [e, hx]
theorem drop_add {a b : List Pw} {j : Nat} (h : a.drop j = b.drop j) : a.drop (j + 1) = b.drop (j + 1) := by
  rw [← List.drop_drop, ← List.drop_drop, h]
theorem DelI.skip {r c : Nat} {p : Pw → Bool} {l : List Pw} {q : List (Nat × Int)} {w : World} {j i : Nat} {m : List Pw} {wr w2 : World} (h : DelI r c p l q w j i m wr) {x : Pw} (hx : l[j]? = some x) (hp : p x = true) (hb : Below wr.heap.size wr w2) : DelI r c p l q w (j + 1) i m w2 := by
  obtain ⟨cur, h1, h2⟩ := h.row
  refine ⟨h.len, h.l6, ?_, drop_add h.tl, ⟨cur, h1.keep hb, h2⟩, gr_below h.gr hb, h.rl, h.cp.keep hb⟩
  rw [notp_add hx, hp, h.hd]
  simp
theorem DelI.put {r c : Nat} {p : Pw → Bool} {l : List Pw} {q : List (Nat × Int)} {w : World} {j i : Nat} {m : List Pw} {wr w2 w3 : World} (h : DelI r c p l q w j i m wr) (hq : ∀ y, y ∈ q → y.1 ≠ r) {x : Pw} (hx : l[j]? = some x) (hp : p x = false) (hij : i < j) (hb : Below wr.heap.size wr w2) (ho : Only1 r w2 w3) {cur : Array Value} (hR : RowC cur c m) (hX : Blk w3 r (setL cur (i * 66) x.cells.toList) 61) : DelI r c p l q w (j + 1) (i + 1) (m.set i x) w3 := by
  have hj := (List.getElem?_eq_some_iff.1 hx).1
  have hm := h.at_j hx
  have hx6 := h.l6 x (List.mem_of_getElem? hm)
  refine ⟨by rw [List.length_set]; exact h.len, fun y hy => ?_, ?_, ?_, ⟨_, hX, hR.put (by have := h.len; omega) hx6 h.l6⟩, gr_only (gr_below h.gr hb) ho, h.rl, (h.cp.keep hb).only ho hq⟩
  · rcases List.mem_or_eq_of_mem_set hy with h1 | h1
    · exact h.l6 y h1
    · rw [h1]
      exact hx6
  · rw [notp_add hx, hp, ← h.hd, List.take_add_one, List.getElem?_set_self (by have := h.len; omega), List.take_set_of_le (Nat.le_refl _)]
    simp
  · rw [List.drop_set_of_lt (by omega)]
    exact drop_add h.tl
section
variable {P : Program} {l : List Oper} {Q : Exit → Act → World → Prop} {rest : List Oper} {a0 : Act} {L : List (Nat × Bool × Value)} {w : World}
theorem x_slo {i j : Nat} {d : Option Tmp} {t ty : TypeId} {p : String} {af : Array Edge} {gd : Option (Nat × Bool)} {vi vj v : Value} {ρ : Operand → Value} (h : ρ (.tmp i) = vi) (h2 : ρ (.tmp j) = vj) (hr : (Instr.sliceAt t vi (some vj) none none).run P w = .ok v w) : (execOp ρ ⟨d, .slice t (.tmp i) (some (.tmp j)) none none, ty, p, af, gd⟩).run P w = .ok (.value v) w := by
  unfold execOp
  dsimp only [Option.map]
  rw [h, h2, Sem.run_bind, hr]
  rfl
theorem x_shi {i j : Nat} {d : Option Tmp} {t ty : TypeId} {p : String} {af : Array Edge} {gd : Option (Nat × Bool)} {vi vj v : Value} {ρ : Operand → Value} (h : ρ (.tmp i) = vi) (h2 : ρ (.tmp j) = vj) (hr : (Instr.sliceAt t vi none (some vj) none).run P w = .ok v w) : (execOp ρ ⟨d, .slice t (.tmp i) none (some (.tmp j)) none, ty, p, af, gd⟩).run P w = .ok (.value v) w := by
  unfold execOp
  dsimp only [Option.map]
  rw [h, h2, Sem.run_bind, hr]
  rfl
end
theorem sl_lo (W : World) (r n c k : Nat) (h : k < n) (hc : n ≤ c) : (Instr.sliceAt 42 (.slice (some ⟨r, 0, none⟩) n c) (some (.int .i64 k)) none none).run Tryd.prog W = .ok (.slice (some ⟨r, k * 66, none⟩) (n - k) (c - k)) W := by
  have e := add_g r (k * 66)
  have hu : Tryd.prog.underlying 42 = some (.slice (Tryd.prog.elem 42)) := by kernel_rfl
  have hz : (sizeOf (Tryd.prog.elem 42)).run Tryd.prog W = .ok 66 W := by kernel_rfl
  rw [run_sliceAt_slice W _ _ _ _ _ hu, run_slice_l W _ _ _ _ hu _ _ (by omega) (by omega), hz]
  show Result.ok (sliced _ _ _ _ _) W = _
  unfold sliced
  rw [Int.toNat_natCast, if_neg (by omega), Option.map_some, e]
theorem sl_hi (W : World) (r n c k : Nat) (h : k ≤ n) (hc : n ≤ c) : (Instr.sliceAt 42 (.slice (some ⟨r, 0, none⟩) n c) none (some (.int .i64 k)) none).run Tryd.prog W = .ok (.slice (some ⟨r, 0, none⟩) k c) W := by
  have e := add_g r 0
  have hu : Tryd.prog.underlying 42 = some (.slice (Tryd.prog.elem 42)) := by kernel_rfl
  have hz : (sizeOf (Tryd.prog.elem 42)).run Tryd.prog W = .ok 66 W := by kernel_rfl
  rw [run_sliceAt_slice W _ _ _ _ _ hu, run_slice_h W _ _ _ _ hu _ _ (by omega) (by omega), hz]
  show Result.ok (sliced _ _ _ _ _) W = _
  unfold sliced
  rw [Int.toNat_natCast, Option.map_some, Nat.zero_mul, e, ite_self, Nat.sub_zero, Nat.sub_zero]
theorem run_alW (W : World) : (Instr.alloc 61 true (.tuple #[])).run Tryd.prog W = .ok (.pointer (some ⟨W.heap.size, 0, none⟩)) (W.alloc (.cells (⟨0, 0, z64⟩ : Pw).cells 61)) := by kernel_rfl
/-- What DeleteFunc has done. -/
structure DelR (base r n c : Nat) (p : Pw → Bool) (l : List Pw) (w : World) (n2 : Nat) (w' : World) : Prop where
  own : OwnX 61 66 base w' (some ⟨r, 0, none⟩) n2 c ((notP p l).map Pw.cells)
  gr : w.grownBy w' (some r)
set_option maxRecDepth 100000 in
set_option maxHeartbeats 4000000 in
theorem delP_any (g : Nat) (lb : Array Value) (eg : ∀ args w, (callFunc g args).run Tryd.prog w = .ok (.enter g args) w) (p : Pw → Bool) (q : List (Nat × Int)) (base r n c : Nat) (l : List Pw) (w : World) (hO : OwnX 61 66 base w (some ⟨r, 0, none⟩) n c (l.map Pw.cells)) (h64 : ∀ x, x ∈ l → x.l.length = 64) (hp : PredP g lb p q) (hq : CapK q w) (hqr : ∀ y, y ∈ q → y.1 ≠ r) :
    Calls Tryd.prog 37 #[.slice (some ⟨r, 0, none⟩) n c, .func (.func g) #[] lb] w fun e w' => ∃ n2, e = .returned (.slice (some ⟨r, 0, none⟩) n2 c) ∧ DelR base r n c p l w n2 w' := by
  have hn : l.length = n := by have := hO.len; rwa [List.length_map] at this
  have hcap := hO.cap
  have hrl : r < w.heap.size := (hO.blk rfl).2
  obtain ⟨cur0, hX0, hC0, hbr, hcm⟩ := hO.rowc
  have hmx : n ≤ maxLen := Nat.le_trans hcap.1 hcap.2
  have HI := Lib.hid (idxP_any g lb eg p q (some ⟨r, 0, none⟩) n c l w hn hO.rdp h64 hmx hp hq)
  have HP := Lib.hid hp
  have HQ := Lib.hid hqr
  have HO := Lib.hid hO
  have H6 := Lib.hid h64
  have HK := Lib.hid hq
  have HX := Lib.hid hX0
  have HC := Lib.hid hC0
  have HN := Lib.hid hn
  have HCM := Lib.hid hcm
  have hnc := hcap.1
  clear hp hqr hO h64 hq hX0 hC0 hcap hn hcm
  unfold maxLen at hmx
  go_enter Tryd.func37, Tryd.ntmps37
  go_upto_region 1 with fail
  refine wp_region_lit ?_
  refine fl_start ?_
  generalize ha : Act.mk _ _ = a0
  have hn : a0.tmps.size = 42 := by rw [← ha]; kernel_rfl
  have h0 : (fr a0 []).eval (.tmp 0) = .slice (some ⟨r, 0, none⟩) n c := by rw [← ha]; kernel_rfl
  refine fl_know hn rfl h0 ?_
  clear h0
  have h1 : (fr a0 [(0, true, .slice (some ⟨r, 0, none⟩) n c)]).eval (.tmp 1) = .func (.func g) #[] lb := by rw [← ha]; kernel_rfl
  refine fl_know hn rfl h1 ?_
  clear h1
  repeat first | refine g_mv hn ?_ | refine g_as hn ?_ | refine g_fd hn ?_ | refine g_ld hn ?_ | refine g_nc hn ?_ | refine g_nt hn ?_ | refine g_an hn ?_ | refine g_or hn ?_ | refine g_ln hn ?_ | refine g_ex hn ?_ | refine g_neq2 hn ?_ | refine g_neq hn ?_ | refine g_eql2 hn ?_ | refine g_eql hn ?_ | refine g_leq2 hn ?_ | refine g_leq hn ?_ | refine g_lss2 hn ?_ | refine g_lss hn ?_ | refine g_gtr2 hn ?_ | refine g_gtr hn ?_ | refine g_geq2 hn ?_ | refine g_geq hn ?_ | refine g_b0 hn ?_ | refine g_bn hn ?_ | refine g_bc hn ?_ | refine g_cv hn ?_ | refine g_ac hn ?_ | refine g_mc hn ?_
  refine g_c2x enters_Idx hn (R := fun v w2 => ∃ z : Int, v = .int .i64 z ∧ IdxR p l z ∧ Below w.heap.size w w2) (HI.out.mono fun _ _ ⟨⟨z, he, hz⟩, hb⟩ => ⟨_, he, z, rfl, hz, hb⟩) ?_
  rintro v w2 ⟨z, rfl, hz, hb2⟩
  repeat first | refine g_mv hn ?_ | refine g_as hn ?_ | refine g_fd hn ?_ | refine g_ld hn ?_ | refine g_nc hn ?_ | refine g_nt hn ?_ | refine g_an hn ?_ | refine g_or hn ?_ | refine g_ln hn ?_ | refine g_ex hn ?_ | refine g_neq2 hn ?_ | refine g_neq hn ?_ | refine g_eql2 hn ?_ | refine g_eql hn ?_ | refine g_leq2 hn ?_ | refine g_leq hn ?_ | refine g_lss2 hn ?_ | refine g_lss hn ?_ | refine g_gtr2 hn ?_ | refine g_gtr hn ?_ | refine g_geq2 hn ?_ | refine g_geq hn ?_ | refine g_b0 hn ?_ | refine g_bn hn ?_ | refine g_bc hn ?_ | refine g_cv hn ?_ | refine g_ac hn ?_ | refine g_mc hn ?_
  refine fl_end ?_
  clear hn
  subst ha
  dsimp only [fr, cnd, Act.put, cond_true]
  simp only [List.setIfInBounds_toArray, List.set_cons_zero, List.set_cons_succ]
  rcases hz with ⟨rfl, hno⟩ | ⟨k, x, rfl, hx, hpx, hno⟩
  · have R : Hid (DelR base r n c p l w n w2) := ⟨by rw [notp_no hno]; exact HO.out.keep hb2, ⟨hb2.os, hb2.tape, hb2.output, hb2.size, fun k hk _ => hb2.block k hk⟩⟩
    clear hno HO
    go_wp2_with fail
    go_ret
    exact ⟨_, rfl, R.out⟩
  have hkn : k < n := by
    have := (List.getElem?_eq_some_iff.1 hx).1
    have := HN.out
    omega
  have D0 : Hid (DelI r c p l q w (k + 1) k l w2) := by
    refine ⟨rfl, H6.out, ?_, rfl, ⟨cur0, HX.out.keep hb2, HC.out⟩, ⟨hb2.os, hb2.tape, hb2.output, hb2.size, fun k hk _ => hb2.block k hk⟩, hrl, HK.out.keep hb2⟩
    rw [notp_add hx, hpx, notp_no hno]
    simp
  clear hno hpx hx HI HO
  have hk1 : ¬ ((k : Int) = -1) := by omega
  go_wp2_with fail
  go_loopw [5, 6, 7] (fun u i _ wr => ∃ (j k2 : Nat) (m : List Pw), u = .int .i64 k2 ∧ i = .int .i64 j ∧ k2 < j ∧ j ≤ n ∧ Hid (DelI r c p l q w j k2 m wr)) (fun _ i _ _ => n - (intOf i).toNat)
  case atStart => exact ⟨k + 1, k, l, rfl, by go_num, by omega, by omega, D0⟩
  case round =>
    clear D0
    obtain ⟨j, k2, m, rfl, rfl, hkj, hjn, hD⟩ := hrel
    by_cases hlt : j < n
    · obtain ⟨x, hx⟩ : ∃ x, l[j]? = some x := ⟨_, List.getElem?_eq_getElem (show j < l.length by have := HN.out; omega)⟩
      have hD' := hD.out
      have hxm := hD'.at_j hx
      have hx6 := hD'.l6 x (List.mem_of_getElem? hxm)
      obtain ⟨cur, hXr, hRr⟩ := hD'.row
      have i1 : (0 : Int) ≤ (j : Int) := by omega
      have i2 : (j : Int) < (n : Int) := by omega
      have k1 := ix_p wr r n c j hlt
      have e2 := ld_p (W := wr) (g := r) (k := j) hx6 (fun t v hv => (hXr.cell _).trans (hRr.2.2 j x hxm t v hv))
      have hcp := hD'.cp
      clear hD'
      go_upto_region 7 with fail
      refine wp_region_lit ?_
      refine fl_start ?_
      generalize ha : Act.mk _ _ = a0
      have hn : a0.tmps.size = 42 := by rw [← ha]; kernel_rfl
      have h0 : (fr a0 []).eval (.tmp 0) = .slice (some ⟨r, 0, none⟩) n c := by rw [← ha]; kernel_rfl
      refine fl_know hn rfl h0 ?_
      clear h0
      have h6 : (fr a0 [(0, true, .slice (some ⟨r, 0, none⟩) n c)]).eval (.tmp 6) = .int .i64 j := by rw [← ha]; kernel_rfl
      refine fl_know hn rfl h6 ?_
      clear h6
      repeat first | refine g_mv hn ?_ | refine g_as hn ?_ | refine g_ix hn ?_ | refine g_fd hn ?_ | refine g_ld hn ?_ | refine g_nc hn ?_ | refine g_nt hn ?_ | refine g_an hn ?_ | refine g_or hn ?_ | refine g_ln hn ?_ | refine g_ex hn ?_ | refine g_neq2 hn ?_ | refine g_neq hn ?_ | refine g_eql2 hn ?_ | refine g_eql hn ?_ | refine g_leq2 hn ?_ | refine g_leq hn ?_ | refine g_lss2 hn ?_ | refine g_lss hn ?_ | refine g_gtr2 hn ?_ | refine g_gtr hn ?_ | refine g_geq2 hn ?_ | refine g_geq hn ?_ | refine g_b0 hn ?_ | refine g_bn hn ?_ | refine g_bc hn ?_ | refine g_cv hn ?_ | refine g_ac hn ?_ | refine g_mc hn ?_
      refine g_w hn (w2 := wr.alloc (.cells (⟨0, 0, z64⟩ : Pw).cells 61)) (v := .pointer (some ⟨wr.heap.size, 0, none⟩)) (fun _ => by unfold execOp; dsimp only; rw [Sem.run_bind, run_alW]; rfl) ?_
      have hY := blk_new wr (⟨0, 0, z64⟩ : Pw).cells 61
      have hB := b0 wr (.cells (⟨0, 0, z64⟩ : Pw).cells 61)
      generalize wr.alloc (.cells (⟨0, 0, z64⟩ : Pw).cells 61) = w3 at hY hB ⊢
      generalize hb7 : wr.heap.size = b7 at hY hB ⊢
      refine g_str hY ?_ (hs := by rw [pw_size hx6]; exact pw_size rfl) (hi := by rw [pw_size hx6]; kernel_rfl) (h1 := pw_one _)
      intro w4 ho4 hY4
      refine fl_end ?_
      clear hn
      subst ha
      dsimp only [fr, cnd, Act.put, cond_true]
      simp only [List.setIfInBounds_toArray, List.set_cons_zero, List.set_cons_succ]
      replace hB : Below wr.heap.size wr w4 := by
        rw [hb7]
        exact hB.trans (ho4.below (Nat.le_refl _))
      clear k1 e2 hY ho4
      have l7 := pw_la hY4 hx6
      have HG := Lib.hid (HP.out x hx6 w4 (hcp.keep hB))
      go_upto_region 8 with fail
      refine wp_region_lit ?_
      refine fl_start ?_
      generalize ha : Act.mk _ _ = a0
      have hn : a0.tmps.size = 42 := by rw [← ha]; kernel_rfl
      have h1 : (fr a0 []).eval (.tmp 1) = .func (.func g) #[] lb := by rw [← ha]; kernel_rfl
      refine fl_know hn rfl h1 ?_
      clear h1
      have h7 : (fr a0 [(1, true, .func (.func g) #[] lb)]).eval (.tmp 7) = .pointer (some ⟨b7, 0, none⟩) := by rw [← ha]; kernel_rfl
      refine fl_know hn rfl h7 ?_
      clear h7
      repeat first | refine g_mv hn ?_ | refine g_as hn ?_ | refine g_fd hn ?_ | refine g_ld hn ?_ | refine g_nc hn ?_ | refine g_nt hn ?_ | refine g_an hn ?_ | refine g_or hn ?_ | refine g_ln hn ?_ | refine g_ex hn ?_ | refine g_neq2 hn ?_ | refine g_neq hn ?_ | refine g_eql2 hn ?_ | refine g_eql hn ?_ | refine g_leq2 hn ?_ | refine g_leq hn ?_ | refine g_lss2 hn ?_ | refine g_lss hn ?_ | refine g_gtr2 hn ?_ | refine g_gtr hn ?_ | refine g_geq2 hn ?_ | refine g_geq hn ?_ | refine g_b0 hn ?_ | refine g_bn hn ?_ | refine g_bc hn ?_ | refine g_cv hn ?_ | refine g_ac hn ?_ | refine g_mc hn ?_
      refine g_cf eg hn (R := fun v w2 => v = .bool (p x) ∧ Below w4.heap.size w4 w2) (HG.out.mono fun _ _ ⟨he, hb⟩ => ⟨_, he, rfl, hb⟩) ?_
      rintro v w5 ⟨rfl, hb5⟩
      repeat first | refine g_mv hn ?_ | refine g_as hn ?_ | refine g_fd hn ?_ | refine g_ld hn ?_ | refine g_nc hn ?_ | refine g_nt hn ?_ | refine g_an hn ?_ | refine g_or hn ?_ | refine g_ln hn ?_ | refine g_ex hn ?_ | refine g_neq2 hn ?_ | refine g_neq hn ?_ | refine g_eql2 hn ?_ | refine g_eql hn ?_ | refine g_leq2 hn ?_ | refine g_leq hn ?_ | refine g_lss2 hn ?_ | refine g_lss hn ?_ | refine g_gtr2 hn ?_ | refine g_gtr hn ?_ | refine g_geq2 hn ?_ | refine g_geq hn ?_ | refine g_b0 hn ?_ | refine g_bn hn ?_ | refine g_bc hn ?_ | refine g_cv hn ?_ | refine g_ac hn ?_ | refine g_mc hn ?_
      refine fl_end ?_
      clear hn
      subst ha
      dsimp only [fr, cnd, Act.put, cond_true]
      simp only [List.setIfInBounds_toArray, List.set_cons_zero, List.set_cons_succ]
      have hB5 : Below wr.heap.size wr w5 := hB.trans (hb5.mono hB.size)
      have hY5 := hY4.keep hb5
      clear l7 HG hY4 hb5 hB
      cases hpx : p x with
      | true =>
        have D2 := Lib.hid (hD.out.skip hx hpx hB5)
        clear hD hpx hx hxm hY5 hXr hRr hB5 hcp
        go_wp2_with fail
        go_roundw
        case rel => exact ⟨j + 1, k2, m, rfl, by go_num, by omega, by omega, D2⟩
        case measure => simp [intOf]; omega
      | false =>
        have l7 := pw_la hY5 hx6
        have k1 := ix_p w5 r n c k2 (by omega)
        have hXr5 := hXr.keep hB5
        have hcs : cur.size = c * 66 := hRr.1
        go_upto_region 9 with fail
        refine wp_region_lit ?_
        refine fl_start ?_
        generalize ha : Act.mk _ _ = a0
        have hn : a0.tmps.size = 42 := by rw [← ha]; kernel_rfl
        have h0 : (fr a0 []).eval (.tmp 0) = .slice (some ⟨r, 0, none⟩) n c := by rw [← ha]; kernel_rfl
        refine fl_know hn rfl h0 ?_
        clear h0
        have h5 : (fr a0 [(0, true, .slice (some ⟨r, 0, none⟩) n c)]).eval (.tmp 5) = .int .i64 k2 := by rw [← ha]; kernel_rfl
        refine fl_know hn rfl h5 ?_
        clear h5
        have h7 : (fr a0 [(5, true, .int .i64 k2), (0, true, .slice (some ⟨r, 0, none⟩) n c)]).eval (.tmp 7) = .pointer (some ⟨b7, 0, none⟩) := by rw [← ha]; kernel_rfl
        refine fl_know hn rfl h7 ?_
        clear h7
        repeat first | refine g_mv hn ?_ | refine g_as hn ?_ | refine g_ix hn ?_ | refine g_fd hn ?_ | refine g_ld hn ?_ | refine g_nc hn ?_ | refine g_nt hn ?_ | refine g_an hn ?_ | refine g_or hn ?_ | refine g_ln hn ?_ | refine g_ex hn ?_ | refine g_neq2 hn ?_ | refine g_neq hn ?_ | refine g_eql2 hn ?_ | refine g_eql hn ?_ | refine g_leq2 hn ?_ | refine g_leq hn ?_ | refine g_lss2 hn ?_ | refine g_lss hn ?_ | refine g_gtr2 hn ?_ | refine g_gtr hn ?_ | refine g_geq2 hn ?_ | refine g_geq hn ?_ | refine g_b0 hn ?_ | refine g_bn hn ?_ | refine g_bc hn ?_ | refine g_cv hn ?_ | refine g_ac hn ?_ | refine g_mc hn ?_
        refine g_stm hXr5 ?_ (hs := by rw [pw_size hx6, hcs]; omega) (hi := by rw [pw_size hx6]; kernel_rfl) (h1 := pw_one _)
        intro w6 ho6 hX6
        refine fl_end ?_
        clear hn
        subst ha
        dsimp only [fr, cnd, Act.put, cond_true]
        simp only [List.setIfInBounds_toArray, List.set_cons_zero, List.set_cons_succ]
        have D2 := Lib.hid (hD.out.put HQ.out hx hpx hkj hB5 ho6 hRr hX6)
        clear hD hpx hx hxm hY5 hXr hRr hB5 l7 k1 hXr5 hX6 hcp
        go_wp2_with fail
        go_roundw
        case rel => exact ⟨j + 1, k2 + 1, m.set k2 x, by go_num, by go_num, by omega, by omega, D2⟩
        case measure => simp [intOf]; omega
    · have hq : ¬ (j : Int) < (n : Int) := by omega
      have ej : j = n := by omega
      subst ej
      have hD' := hD.out
      obtain ⟨cur, hXr, hRr⟩ := hD'.row
      have hm : m.length = j := hD'.len.trans HN.out
      have e1 := sl_lo wr r j c k2 hkj hnc
      have hcs : cur.size = c * 66 := hRr.1
      go_upto_region 11 with fail
      refine wp_region_lit ?_
      refine fl_start ?_
      generalize ha : Act.mk _ _ = a0
      have hn : a0.tmps.size = 42 := by rw [← ha]; kernel_rfl
      have h0 : (fr a0 []).eval (.tmp 0) = .slice (some ⟨r, 0, none⟩) j c := by rw [← ha]; kernel_rfl
      refine fl_know hn rfl h0 ?_
      clear h0
      have h5 : (fr a0 [(0, true, .slice (some ⟨r, 0, none⟩) j c)]).eval (.tmp 5) = .int .i64 k2 := by rw [← ha]; kernel_rfl
      refine fl_know hn rfl h5 ?_
      clear h5
      repeat first | refine g_mv hn ?_ | refine g_as hn ?_ | refine g_fd hn ?_ | refine g_ld hn ?_ | refine g_nc hn ?_ | refine g_nt hn ?_ | refine g_an hn ?_ | refine g_or hn ?_ | refine g_ln hn ?_ | refine g_ex hn ?_ | refine g_neq2 hn ?_ | refine g_neq hn ?_ | refine g_eql2 hn ?_ | refine g_eql hn ?_ | refine g_leq2 hn ?_ | refine g_leq hn ?_ | refine g_lss2 hn ?_ | refine g_lss hn ?_ | refine g_gtr2 hn ?_ | refine g_gtr hn ?_ | refine g_geq2 hn ?_ | refine g_geq hn ?_ | refine g_b0 hn ?_ | refine g_bn hn ?_ | refine g_bc hn ?_ | refine g_cv hn ?_ | refine g_ac hn ?_ | refine g_mc hn ?_
      refine g_o2 hn (i := 36) (j := 37) (vi := .slice (some ⟨r, 0, none⟩) j c) (vj := .int .i64 k2) (v := .slice (some ⟨r, k2 * 66, none⟩) (j - k2) (c - k2)) (fun ρ h1 h2 _ => x_slo h1 h2 e1) ?_
      obtain ⟨w7, vs, hcl, ho7, hX7⟩ := run_clrP wr r (k2 * 66) (j - k2) (c - k2) cur _ hXr (by rw [hcs]; omega)
      refine g_clr hcl ?_
      refine fl_end ?_
      clear hn
      subst ha
      dsimp only [fr, cnd, Act.put, cond_true]
      simp only [List.setIfInBounds_toArray, List.set_cons_zero, List.set_cons_succ]
      have e2 := sl_hi w7 r j c k2 (by omega) hnc
      go_upto_region 12 with fail
      refine wp_region_lit ?_
      refine fl_start ?_
      generalize ha : Act.mk _ _ = a0
      have hn : a0.tmps.size = 42 := by rw [← ha]; kernel_rfl
      have h0 : (fr a0 []).eval (.tmp 0) = .slice (some ⟨r, 0, none⟩) j c := by rw [← ha]; kernel_rfl
      refine fl_know hn rfl h0 ?_
      clear h0
      have h5 : (fr a0 [(0, true, .slice (some ⟨r, 0, none⟩) j c)]).eval (.tmp 5) = .int .i64 k2 := by rw [← ha]; kernel_rfl
      refine fl_know hn rfl h5 ?_
      clear h5
      repeat first | refine g_mv hn ?_ | refine g_as hn ?_ | refine g_fd hn ?_ | refine g_ld hn ?_ | refine g_nc hn ?_ | refine g_nt hn ?_ | refine g_an hn ?_ | refine g_or hn ?_ | refine g_ln hn ?_ | refine g_ex hn ?_ | refine g_neq2 hn ?_ | refine g_neq hn ?_ | refine g_eql2 hn ?_ | refine g_eql hn ?_ | refine g_leq2 hn ?_ | refine g_leq hn ?_ | refine g_lss2 hn ?_ | refine g_lss hn ?_ | refine g_gtr2 hn ?_ | refine g_gtr hn ?_ | refine g_geq2 hn ?_ | refine g_geq hn ?_ | refine g_b0 hn ?_ | refine g_bn hn ?_ | refine g_bc hn ?_ | refine g_cv hn ?_ | refine g_ac hn ?_ | refine g_mc hn ?_
      refine g_o2 hn (i := 39) (j := 40) (vi := .slice (some ⟨r, 0, none⟩) j c) (vj := .int .i64 k2) (v := .slice (some ⟨r, 0, none⟩) k2 c) (fun ρ h1 h2 _ => x_shi h1 h2 e2) ?_
      repeat first | refine g_mv hn ?_ | refine g_as hn ?_ | refine g_fd hn ?_ | refine g_ld hn ?_ | refine g_nc hn ?_ | refine g_nt hn ?_ | refine g_an hn ?_ | refine g_or hn ?_ | refine g_ln hn ?_ | refine g_ex hn ?_ | refine g_neq2 hn ?_ | refine g_neq hn ?_ | refine g_eql2 hn ?_ | refine g_eql hn ?_ | refine g_leq2 hn ?_ | refine g_leq hn ?_ | refine g_lss2 hn ?_ | refine g_lss hn ?_ | refine g_gtr2 hn ?_ | refine g_gtr hn ?_ | refine g_geq2 hn ?_ | refine g_geq hn ?_ | refine g_b0 hn ?_ | refine g_bn hn ?_ | refine g_bc hn ?_ | refine g_cv hn ?_ | refine g_ac hn ?_ | refine g_mc hn ?_
      refine fl_end ?_
      clear hn
      subst ha
      dsimp only [fr, cnd, Act.put, cond_true]
      simp only [List.setIfInBounds_toArray, List.set_cons_zero, List.set_cons_succ]
      have hR7 := hRr.behind k2 vs hD'.l6
      have hd : m.take k2 = notP p l := by rw [hD'.hd, List.take_of_length_le (by have := HN.out; omega)]
      have R : Hid (DelR base r j c p l w k2 w7) := by
        refine ⟨?_, gr_only hD'.gr ho7⟩
        rw [← hd]
        exact hR7.own hX7 hbr HCM.out (by rw [List.length_take]; omega) fun y hy => hD'.l6 y (List.mem_of_mem_take hy)
      clear hD' hD hXr hRr hX7 hR7 hcl e1 e2
      go_wp2_with fail
      go_ret
      exact ⟨_, rfl, R.out⟩
end Go.Proofs.YtjbmhbnlanbbkaaDoor

namespace Go.Proofs.YtjbmhbnlanbbkaaDoor
open Go.RowKit

/-- DeleteFunc of a row that may be nil. -/
def DelA (base : Nat) (A : Option Addr) (c : Nat) (p : Pw → Bool) (l : List Pw) (w : World) (v : Value) (w' : World) : Prop := ∃ n2, v = .slice A n2 c ∧ OwnX 61 66 base w' A n2 c ((notP p l).map Pw.cells) ∧ w.grownBy w' (A.map (·.block))
set_option maxRecDepth 100000 in
set_option maxHeartbeats 4000000 in
theorem delA_any (g : Nat) (lb : Array Value) (eg : ∀ args w, (callFunc g args).run Tryd.prog w = .ok (.enter g args) w) (p : Pw → Bool) (q : List (Nat × Int)) (base n c : Nat) (A : Option Addr) (l : List Pw) (w : World) (hO : OwnX 61 66 base w A n c (l.map Pw.cells)) (h64 : ∀ x, x ∈ l → x.l.length = 64) (hp : PredP g lb p q) (hq : CapK q w) (hqr : ∀ a, A = some a → ∀ y, y ∈ q → y.1 ≠ a.block) :
    Calls Tryd.prog 37 #[.slice A n c, .func (.func g) #[] lb] w fun e w' => ∃ v, e = .returned v ∧ DelA base A c p l w v w' := by
  cases hA : A with
  | some a =>
    have ha : ∃ r, a = ⟨r, 0, none⟩ := by
      rcases hO.1.2 with ⟨hv, _⟩ | ⟨r, _, _, hv, _⟩
      · injection hv with h1
        rw [hA] at h1
        cases h1
      · injection hv with h1
        rw [hA] at h1
        injection h1 with h1
        exact ⟨r, h1⟩
    obtain ⟨r, rfl⟩ := ha
    subst hA
    exact (delP_any g lb eg p q base r n c l w hO h64 hp hq (hqr _ rfl)).mono fun _ _ ⟨n2, he, hR⟩ => ⟨_, he, n2, rfl, hR.own, hR.gr⟩
  | none =>
    subst hA
    have hnc : n = 0 ∧ c = 0 := by
      rcases hO.1.2 with ⟨hv, h0⟩ | ⟨r, _, _, hv, _⟩
      · injection hv with _ _ h1
        exact ⟨h0, h1⟩
      · injection hv with h1
        cases h1
    obtain ⟨rfl, rfl⟩ := hnc
    have hl : l = [] := by
      have := hO.len
      rw [List.length_map] at this
      exact List.eq_nil_of_length_eq_zero this
    subst hl
    have HI := Lib.hid (idxP_any g lb eg p q none 0 0 [] w rfl (fun k x hx => by simp at hx) h64 (Nat.zero_le _) hp hq)
    clear hO h64 hp hq hqr
    go_enter Tryd.func37, Tryd.ntmps37
    go_upto_region 1 with fail
    refine wp_region_lit ?_
    refine fl_start ?_
    generalize ha : Act.mk _ _ = a0
    have hn : a0.tmps.size = 42 := by rw [← ha]; kernel_rfl
    have h0 : (fr a0 []).eval (.tmp 0) = .slice none 0 0 := by rw [← ha]; kernel_rfl
    refine fl_know hn rfl h0 ?_
    clear h0
    have h1 : (fr a0 [(0, true, .slice none 0 0)]).eval (.tmp 1) = .func (.func g) #[] lb := by rw [← ha]; kernel_rfl
    refine fl_know hn rfl h1 ?_
    clear h1
    repeat first | refine g_mv hn ?_ | refine g_as hn ?_ | refine g_fd hn ?_ | refine g_ld hn ?_ | refine g_nc hn ?_ | refine g_nt hn ?_ | refine g_an hn ?_ | refine g_or hn ?_ | refine g_ln hn ?_ | refine g_ex hn ?_ | refine g_neq2 hn ?_ | refine g_neq hn ?_ | refine g_eql2 hn ?_ | refine g_eql hn ?_ | refine g_leq2 hn ?_ | refine g_leq hn ?_ | refine g_lss2 hn ?_ | refine g_lss hn ?_ | refine g_gtr2 hn ?_ | refine g_gtr hn ?_ | refine g_geq2 hn ?_ | refine g_geq hn ?_ | refine g_b0 hn ?_ | refine g_bn hn ?_ | refine g_bc hn ?_ | refine g_cv hn ?_ | refine g_ac hn ?_ | refine g_mc hn ?_
    refine g_c2x enters_Idx hn (R := fun v w2 => ∃ z : Int, v = .int .i64 z ∧ IdxR p [] z ∧ Below w.heap.size w w2) (HI.out.mono fun _ _ ⟨⟨z, he, hz⟩, hb⟩ => ⟨_, he, z, rfl, hz, hb⟩) ?_
    rintro v w2 ⟨z, rfl, hz, hb2⟩
    repeat first | refine g_mv hn ?_ | refine g_as hn ?_ | refine g_fd hn ?_ | refine g_ld hn ?_ | refine g_nc hn ?_ | refine g_nt hn ?_ | refine g_an hn ?_ | refine g_or hn ?_ | refine g_ln hn ?_ | refine g_ex hn ?_ | refine g_neq2 hn ?_ | refine g_neq hn ?_ | refine g_eql2 hn ?_ | refine g_eql hn ?_ | refine g_leq2 hn ?_ | refine g_leq hn ?_ | refine g_lss2 hn ?_ | refine g_lss hn ?_ | refine g_gtr2 hn ?_ | refine g_gtr hn ?_ | refine g_geq2 hn ?_ | refine g_geq hn ?_ | refine g_b0 hn ?_ | refine g_bn hn ?_ | refine g_bc hn ?_ | refine g_cv hn ?_ | refine g_ac hn ?_ | refine g_mc hn ?_
    refine fl_end ?_
    clear hn
    subst ha
    dsimp only [fr, cnd, Act.put, cond_true]
    simp only [List.setIfInBounds_toArray, List.set_cons_zero, List.set_cons_succ]
    rcases hz with ⟨rfl, hno⟩ | ⟨k, x, _, hx, _⟩
    · clear hno HI
      go_wp2_with fail
      go_ret
      exact ⟨_, rfl, 0, rfl, OwnX.nil _ _ _ _, hb2.os, hb2.tape, hb2.output, hb2.size, fun k hk _ => hb2.block k hk⟩
    · simp at hx
/-- What a slate is whose pending writes have turned. -/
theorem pend_fin {B s d1 d2 n n' c c' : Nat} {tg : Nat → Nat × Int} {f1 f2 : Int → Option Value} {A A' : Option Addr} {M : Sl} {l0 : List (Array Value)} {l : List Pw} {w0 w8 w10 : World} (hsB : B ≤ s) (hX : Blk w8 s (slI d1 d2 A n c M.armed M.budget M.dead) 44) (hD1 : DkR B tg 0 w8 d1 M.kept f1) (hD2 : DkR B tg 1 w8 d2 M.seen f2) (hO : OwnX 61 66 B w8 A n c l0)
    (hK : StK B w0 w8) (hP : ∀ y, y ∈ l → y.l.length = 64) (hb0 : 0 ≤ M.budget) (hb1 : M.budget ≤ 1099511627776) (hB : B ≤ w8.heap.size) (hg : w8.grownBy w10 (A.map (·.block))) (hO10 : OwnX 61 66 B w10 A' n' c' (l.map Pw.cells)) :
    Blk w10 s (slI d1 d2 A n c M.armed M.budget M.dead) 44 ∧ ∀ w11, Only1 s w10 w11 → Blk w11 s (slI d1 d2 A' n' c' M.armed M.budget M.dead) 44 → SlR B w11 s { M with pend := l } ∧ StK B w0 w11 := by
  have hold : ∀ y, y < w8.heap.size → (∀ cs, ¬ Blk w8 y cs 61) → w10.heap[y]? = w8.heap[y]? := fun y hy hn => by
    refine hg.block y hy ?_
    intro e
    cases hA : A with
    | none => rw [hA] at e; cases e
    | some a =>
      rw [hA] at e
      injection e with e
      have e' : a.block = y := e.symm
      obtain ⟨_, cs, hb⟩ := hO.row hA
      rw [e'] at hb
      exact hn cs hb
  have hX10 : Blk w10 s (slI d1 d2 A n c M.armed M.budget M.dead) 44 := (hold s hX.lt (fun cs hb => by
    unfold Blk at hX hb
    rw [hX] at hb
    injection hb with hb
    injection hb with _ hb _
    exact absurd hb (by decide))).trans hX
  refine ⟨hX10, fun w11 ho hX11 => ?_⟩
  have hmap : ∀ (y : Nat) (es : Array MapEntry) (cl : Nat), w8.heap[y]? = some (Obj.map es cl) → w11.heap[y]? = w8.heap[y]? := fun y es cl hy => by
    have hlt := (Array.getElem?_eq_some_iff.1 hy).1
    refine (ho.block y ?_).trans (hold y hlt fun cs hb => ?_)
    · rintro rfl
      unfold Blk at hX
      rw [hy] at hX
      cases hX
    · unfold Blk at hb
      rw [hy] at hb
      cases hb
  have hbel : Below B w8 w11 := ((Below.refl B _).grown hg (by omega) (fun k hk => by
    cases hA : A with
    | none => rw [hA] at hk; cases hk
    | some a =>
      rw [hA] at hk
      injection hk with hk
      have e' : a.block = k := hk
      rw [← e']
      exact (hO.row hA).1)).trans (ho.below hsB)
  refine ⟨⟨tg, d1, d2, f1, f2, A', n', c', hX11, hsB, hD1.maps hmap, hD2.maps hmap, hO10.only hX10 ho (by decide), hP, hb0, hb1, Nat.le_trans hB hbel.size⟩, hK.trans ⟨hbel, fun y cs t fr hy h1 h2 => ?_⟩⟩
  have hlt := (Array.getElem?_eq_some_iff.1 hy).1
  refine (ho.block y ?_).trans (hold y hlt fun cs2 hb => ?_)
  · rintro rfl
    unfold Blk at hX
    rw [hy] at hX
    injection hX with hX
    injection hX with _ hX _
    exact h1 hX
  · unfold Blk at hb
    rw [hy] at hb
    injection hb with hb
    injection hb with _ hb _
    exact h2 hb
theorem x_mf {P : Program} {i f : Nat} {d : Option Tmp} {ty : TypeId} {p : String} {af : Array Edge} {gd : Option (Nat × Bool)} {v : Value} {ρ : Operand → Value} {w : World} (h : ρ (.tmp i) = v) : (execOp ρ ⟨d, .makeFunc (.func f) #[] #[.tmp i], ty, p, af, gd⟩).run P w = .ok (.value (.func (.func f) #[] #[v])) w := by
  unfold execOp
  dsimp only
  go_simp
theorem enters_Del : ∀ args w, (callFunc 37 args).run Tryd.prog w = .ok (.enter 37 args) w := enters_of Tryd.func37 (by kernel_rfl) rfl
theorem enters_forget : ∀ args w, (callFunc 28 args).run Tryd.prog w = .ok (.enter 28 args) w := enters_of Tryd.func28 (by kernel_rfl) rfl

def isF (f : Int) : Pw → Bool := fun x => x.f == f
def Sl.forgets (M : Sl) (f : Int) : Sl := { M with pend := notP (isF f) M.pend }
theorem notp_mem {p : Pw → Bool} {l : List Pw} {x : Pw} (h : x ∈ notP p l) : x ∈ l := (List.mem_filter.1 h).1
set_option maxRecDepth 100000 in
set_option maxHeartbeats 4000000 in
theorem forget_any (B s : Nat) (M : Sl) (f : Int) (W : World) (hR : SlR B W s M) : Calls Tryd.prog 28 #[.pointer (some ⟨s, 0, none⟩), .int .i64 f] W fun e W' => e = .returned (.tuple #[]) ∧ SlR B W' s (M.forgets f) ∧ StK B W W' := by
  obtain ⟨tg, d1, d2, f1, f2, A, n, c, hX0, hsB, hD10, hD20, hO0, hP, hb0, hb1, hBW⟩ := hR
  go_enter Tryd.func28, Tryd.ntmps28
  go_upto_region 1 with fail
  have hY : (W.alloc (.cells #[.int .i64 f] 3)).cell? ⟨W.heap.size, 0, none⟩ = some (.int .i64 f) := (blk_new W #[.int .i64 f] 3).cell 0
  have hBel := b0 W (.cells #[.int .i64 f] 3)
  have hX := hX0.keep hBel
  have hD1 := hD10.below hBel
  have hD2 := hD20.below hBel
  have hO := hO0.keep hBel
  have hbA : ∀ a, A = some a → a.block < W.heap.size := fun a ha => (hO0.blk ha).2
  have hK := StK.of_below hBel hBW
  have hBW1 := Nat.le_trans hBW hBel.size
  clear hX0 hD10 hD20 hO0 hBel
  generalize W.alloc (.cells #[.int .i64 f] 3) = W1 at hY hX hD1 hD2 hO hK hBW1 ⊢
  generalize hb : W.heap.size = b at hY hbA ⊢
  have a2 := sl_a2 W1 s
  have l2 := sl_l2 hX
  have hq : CapK [(b, f)] W1 := fun p hp => by
    have e : p = (b, f) := by simpa using hp
    rw [e]
    exact hY
  have hqr : ∀ a, A = some a → ∀ y, y ∈ [(b, f)] → y.1 ≠ a.block := fun a ha y hy => by
    have e : y = (b, f) := by simpa using hy
    have := hbA a ha
    rw [e]
    dsimp only
    omega
  have HD := Lib.hid (delA_any 38 #[.pointer (some ⟨b, 0, none⟩)] enters_fg1 (isF f) [(b, f)] B n c A M.pend W1 hO hP (fg1_any b f) hq hqr)
  clear hq hqr hY hbA
  refine wp_region_lit ?_
  refine fl_start ?_
  generalize ha : Act.mk _ _ = a0
  have hn : a0.tmps.size = 13 := by rw [← ha]; kernel_rfl
  have h0 : (fr a0 []).eval (.tmp 0) = .pointer (some ⟨s, 0, none⟩) := by rw [← ha]; kernel_rfl
  refine fl_know hn rfl h0 ?_
  clear h0
  have h3 : (fr a0 [(0, true, .pointer (some ⟨s, 0, none⟩))]).eval (.tmp 3) = .pointer (some ⟨b, 0, none⟩) := by rw [← ha]; kernel_rfl
  refine fl_know hn rfl h3 ?_
  clear h3
  repeat first | refine g_mv hn ?_ | refine g_as hn ?_ | refine g_fd hn ?_ | refine g_ld hn ?_ | refine g_nc hn ?_ | refine g_nt hn ?_ | refine g_an hn ?_ | refine g_or hn ?_ | refine g_ln hn ?_ | refine g_ex hn ?_ | refine g_neq2 hn ?_ | refine g_neq hn ?_ | refine g_eql2 hn ?_ | refine g_eql hn ?_ | refine g_leq2 hn ?_ | refine g_leq hn ?_ | refine g_lss2 hn ?_ | refine g_lss hn ?_ | refine g_gtr2 hn ?_ | refine g_gtr hn ?_ | refine g_geq2 hn ?_ | refine g_geq hn ?_ | refine g_b0 hn ?_ | refine g_bn hn ?_ | refine g_bc hn ?_ | refine g_cv hn ?_ | refine g_ac hn ?_ | refine g_mc hn ?_
  refine g_o1 hn (i := 3) (vi := .pointer (some ⟨b, 0, none⟩)) (v := .func (.func 38) #[] #[.pointer (some ⟨b, 0, none⟩)]) (fun ρ h _ => x_mf h) ?_
  refine g_c2x enters_Del hn HD.out ?_
  rintro v w2 ⟨n2, rfl, hO2, hg2⟩
  obtain ⟨hX2, hF⟩ := pend_fin (M := M) (l := notP (isF f) M.pend) hsB hX hD1 hD2 hO hK (fun y hy => hP y (notp_mem hy)) hb0 hb1 hBW1 hg2 hO2
  have a2 := sl_a2 w2 s
  repeat first | refine g_mv hn ?_ | refine g_as hn ?_ | refine g_fd hn ?_ | refine g_ld hn ?_ | refine g_nc hn ?_ | refine g_nt hn ?_ | refine g_an hn ?_ | refine g_or hn ?_ | refine g_ln hn ?_ | refine g_ex hn ?_ | refine g_neq2 hn ?_ | refine g_neq hn ?_ | refine g_eql2 hn ?_ | refine g_eql hn ?_ | refine g_leq2 hn ?_ | refine g_leq hn ?_ | refine g_lss2 hn ?_ | refine g_lss hn ?_ | refine g_gtr2 hn ?_ | refine g_gtr hn ?_ | refine g_geq2 hn ?_ | refine g_geq hn ?_ | refine g_b0 hn ?_ | refine g_bn hn ?_ | refine g_bc hn ?_ | refine g_cv hn ?_ | refine g_ac hn ?_ | refine g_mc hn ?_
  refine g_stt hX2 (st_slP (j := 2) hX2 (by simp) A n2 c) ?_
  intro w3 ho3 hX3
  refine fl_end ?_
  clear hn
  subst ha
  dsimp only [fr, cnd, Act.put, cond_true]
  simp only [List.setIfInBounds_toArray, List.set_cons_zero, List.set_cons_succ]
  have R : Hid (SlR B w3 s (M.forgets f) ∧ StK B W w3) := hF w3 ho3 hX3
  clear hF hX hX2 hX3 hO hO2 hD1 hD2 a2 l2 HD hK
  go_wp2_with fail
  go_end0
  exact ⟨rfl, R.out⟩
end Go.Proofs.YtjbmhbnlanbbkaaDoor

namespace Go.Proofs.YtjbmhbnlanbbkaaDoor
open Go.RowKit

def Sl.stepped (M : Sl) : Sl := { M with budget := stB M.armed M.budget, dead := stD M.armed M.budget M.dead }
theorem LaidE.stk {S : Addr} {B : Nat} {W W' : World} (h : LaidE S W) (hk : StK B W W') (hg : 0 < B) : LaidE S W' := by
  unfold LaidE World.cell? at *
  rw [hk.bel.block _ hg]
  exact h
theorem SlR.size {B s : Nat} {W : World} {M : Sl} (h : SlR B W s M) : B ≤ W.heap.size := by
  obtain ⟨_, _, _, _, _, _, _, _, _, _, _, _, _, _, _, _, h⟩ := h
  exact h
theorem SlR.lo {B s : Nat} {W : World} {M : Sl} (h : SlR B W s M) : B ≤ s := by
  obtain ⟨_, _, _, _, _, _, _, _, _, h, _⟩ := h
  exact h
/-- What a step leaves. -/
def StepR (S : Addr) (B s : Nat) (M : Sl) (w : World) (v : Value) (w' : World) : Prop := v = stV S M.armed M.budget ∧ SlR B w' s M.stepped ∧ StK B w w' ∧ LaidE S w'
theorem step_sl (S : Addr) (B s : Nat) (M : Sl) (w : World) (hR : SlR B w s M) (hE : LaidE S w) (hg : 0 < B) : Calls Tryd.prog 25 #[.pointer (some ⟨s, 0, none⟩)] w fun e w' => ∃ v, e = .returned v ∧ StepR S B s M w v w' := by
  obtain ⟨tg, d1, d2, f1, f2, A, n, c, hX, hsB, hD1, hD2, hO, hP, hb0, hb1, hBW⟩ := hR
  refine (step_any S s d1 d2 A n c M.armed M.budget M.dead w hX hE (Nat.lt_of_lt_of_le hg hsB) hb0 hb1).mono fun _ _ ⟨v, he, hv, ho, hX'⟩ => ?_
  have hbu : 0 ≤ stB M.armed M.budget ∧ stB M.armed M.budget ≤ 1099511627776 := by
    unfold stB
    split <;> omega
  obtain ⟨h1, h2⟩ := sl_head hsB hX hD1 hD2 hO hP hbu.1 hbu.2 hBW ho hX'
  exact ⟨v, he, hv, h1, h2, hE.stk h2 hg⟩
theorem SlR.drew {B s : Nat} {W : World} {M : Sl} (h : SlR B W s M) : SlR B W.drew s M := h.below ⟨rfl, rfl, rfl, Nat.le_refl _, fun _ _ => rfl⟩
theorem delD_at (D : Dk) (f : Int) : delD D f f = none := if_pos rfl
/-- A disk of which a file has gone. -/
theorem DkR.del {B : Nat} {tg : Nat → Nat × Int} {k : Nat} {W W' : World} {d : Nat} {D : Dk} {f : Int → Option Value} (h : DkR B tg k W d D f) (ho : Only1 d W W') {n : Int} (hm : MpI W' d (upd f n none)) : DkR B tg k W' d (delD D n) (upd f n none) := by
  refine ⟨hm, h.lo, h.tag, fun m hn => ?_, fun m v hv => ?_⟩
  · unfold delD
    by_cases e : m = n
    · rw [if_pos e]
    · rw [if_neg e]
      rw [upd_ne e] at hn
      exact h.no m hn
  · by_cases e : m = n
    · rw [e, upd_at] at hv
      cases hv
    · rw [upd_ne e] at hv
      obtain ⟨c, g, h1, h2, h3, h4, h5, h6⟩ := h.yes m v hv
      refine ⟨c, g, h1, h2, h3, ?_, h5.other ho ?_, h6⟩
      · unfold delD
        rw [if_neg e]
        exact h4
      · rintro rfl
        have := h2.symm.trans h.tag
        injection this with h7 _
        omega
/-- The other disk, when one's own map alone has turned. -/
theorem DkR.apart {B : Nat} {tg : Nat → Nat × Int} {k k2 : Nat} {W W' : World} {d d2 : Nat} {D D2 : Dk} {f f2 : Int → Option Value} (h : DkR B tg k W d D f) (h2 : DkR B tg k2 W d2 D2 f2) (ho : Only1 d2 W W') (hne : k ≠ k2) (hne2 : k + 2 ≠ k2) : DkR B tg k W' d D f :=
  h.keep (fun _ _ => rfl) fun x _ hx => ho.block x (by
    rintro rfl
    rw [h2.tag] at hx
    rcases hx with hx | hx <;> dsimp only at hx <;> omega)
theorem Blk.mp {W W' : World} {b d : Nat} {cs : Array Value} {t : TypeId} {f : Int → Option Value} (h : Blk W b cs t) (hm : MpI W d f) (ho : Only1 d W W') : Blk W' b cs t := (ho.block b (by
  rintro rfl
  obtain ⟨es, cl, hb, _⟩ := hm
  unfold Blk at h
  rw [h] at hb
  cases hb)).trans h
theorem stk_mp {B : Nat} {W W' : World} {d : Nat} {f : Int → Option Value} (hm : MpI W d f) (hB : B ≤ d) (ho : Only1 d W W') : StK B W W' := ⟨ho.below hB, fun x cs t fr hx _ _ => ho.block x (by
  rintro rfl
  obtain ⟨es, cl, hb, _⟩ := hm
  rw [hx] at hb
  cases hb)⟩
theorem OwnX.mp {t : TypeId} {z base : Nat} {W W' : World} {A : Option Addr} {n c : Nat} {l : List (Array Value)} {d : Nat} {f : Int → Option Value} (h : OwnX t z base W A n c l) (hm : MpI W d f) (ho : Only1 d W W') : OwnX t z base W' A n c l :=
  h.same fun x cs hx => ho.block x (by
    rintro rfl
    obtain ⟨es, cl, hb, _⟩ := hm
    unfold Blk at hx
    rw [hx] at hb
    cases hb)
def Sl.removes (M : Sl) (f : Int) : Sl := { M with kept := delD M.kept f, seen := delD M.seen f, pend := notP (isF f) M.pend }
def rmCode (M : Sl) (f : Int) : Int := bif fileB f then (bif M.spent then 7 else 0) else 1
def rmM (M : Sl) (f : Int) : Sl := bif fileB f then (bif M.spent then M.stepped else M.stepped.removes f) else M
theorem enters_Remove : ∀ args w, (callFunc 17 args).run Tryd.prog w = .ok (.enter 17 args) w := enters_of Tryd.func17 (by kernel_rfl) rfl

set_option maxRecDepth 100000 in
set_option maxHeartbeats 4000000 in
theorem remove_any (S : Addr) (B s : Nat) (M : Sl) (f : Int) (W : World) (hR : SlR B W s M) (hE : LaidE S W) (hg : 0 < B) :
    Calls Tryd.prog 17 #[.pointer (some ⟨s, 0, none⟩), .int .i64 f] W fun e W' => e = .returned (.int .i64 (rmCode M f)) ∧ SlR B W' s (rmM M f) ∧ StK B W W' := by
  have HR := Lib.hid hR
  have HE := Lib.hid hE
  clear hR hE
  go_enter Tryd.func17, Tryd.ntmps17
  go_upto_region 1 with fail
  refine wp_region_lit ?_
  refine fl_start ?_
  generalize ha : Act.mk _ _ = a0
  have hn : a0.tmps.size = 25 := by rw [← ha]; kernel_rfl
  have h0 : (fr a0 []).eval (.tmp 0) = .pointer (some ⟨s, 0, none⟩) := by rw [← ha]; kernel_rfl
  refine fl_know hn rfl h0 ?_
  clear h0
  have h1 : (fr a0 [(0, true, .pointer (some ⟨s, 0, none⟩))]).eval (.tmp 1) = .int .i64 f := by rw [← ha]; kernel_rfl
  refine fl_know hn rfl h1 ?_
  clear h1
  refine g_mv hn ?_
  refine g_c1x enters_isFile hn (R := fun v w2 => v = .bool (fileB f) ∧ w2 = W) ((isFile_any f W).mono fun _ _ ⟨he, hw⟩ => ⟨_, he, rfl, hw⟩) ?_
  rintro v w2 ⟨rfl, rfl⟩
  repeat first | refine g_mv hn ?_ | refine g_as hn ?_ | refine g_fd hn ?_ | refine g_ld hn ?_ | refine g_nc hn ?_ | refine g_nt hn ?_ | refine g_an hn ?_ | refine g_or hn ?_ | refine g_ln hn ?_ | refine g_ex hn ?_ | refine g_neq2 hn ?_ | refine g_neq hn ?_ | refine g_eql2 hn ?_ | refine g_eql hn ?_ | refine g_leq2 hn ?_ | refine g_leq hn ?_ | refine g_lss2 hn ?_ | refine g_lss hn ?_ | refine g_gtr2 hn ?_ | refine g_gtr hn ?_ | refine g_geq2 hn ?_ | refine g_geq hn ?_ | refine g_b0 hn ?_ | refine g_bn hn ?_ | refine g_bc hn ?_ | refine g_cv hn ?_ | refine g_ac hn ?_ | refine g_mc hn ?_
  refine fl_end ?_
  clear hn
  subst ha
  dsimp only [fr, cnd, Act.put, cond_true]
  simp only [List.setIfInBounds_toArray, List.set_cons_zero, List.set_cons_succ]
  cases hok : fileB f with
  | false =>
    have R : Hid (Ending.returned (.int .i64 1) = Ending.returned (.int .i64 (rmCode M f)) ∧ SlR B w2 s (rmM M f) ∧ StK B w2 w2) := by
      show _ ∧ _ ∧ _
      unfold rmCode rmM
      rw [hok]
      exact ⟨rfl, HR.out, StK.refl _ _⟩
    clear hok
    go_wp2_with fail
    go_ret
    exact R.out
  | true =>
  have HOK := Lib.hid hok
  clear hok
  go_upto_region 3 with fail
  refine fh_start (S := (fun W => LaidE S W)) (by kernel_rfl) (HE.out) (fun hS => ?_)
  generalize ha : Act.mk _ _ = a0
  have hn : a0.tmps.size = 25 := by rw [← ha]; kernel_rfl
  have h0 : (fr a0 []).eval (.tmp 0) = .pointer (some ⟨s, 0, none⟩) := by rw [← ha]; kernel_rfl
  refine fh_know hn rfl h0 ?_
  clear h0
  refine h_mv 0 hn hS ?_
  have cg : ∀ W, LaidE S W → (Instr.loadAt 57 (.pointer (some ⟨0, 0, none⟩))).run Tryd.prog W = .ok (.iface 93 (.pointer (some S))) W := fun W h => ld_err h
  refine h_lg 2 hn hS ?_ (u := .pointer (some ⟨0, 0, none⟩))
  refine h_c1 1 enters_step hn (step_sl S B s M (World.drew w2) HR.out.drew hS hg) ?_
  rintro v w3 ⟨rfl, hR3, hK3, hE3⟩
  replace hS := hE3
  refine ⟨hS, ?_⟩
  refine h_c2 3 enters_Is hn (isErr_any S M.armed M.budget w3) ?_
  rintro v w4 ⟨rfl, rfl⟩
  refine ⟨hS, ?_⟩
  refine fh_end (by kernel_rfl) ?_
  clear hn cg
  subst ha
  dsimp only [fr, cnd, Act.put, cond_true]
  simp only [List.setIfInBounds_toArray, List.set_cons_zero, List.set_cons_succ]
  have hK0 : StK B w2 w4 := ⟨⟨hK3.bel.os, hK3.bel.tape, hK3.bel.output, hK3.bel.size, hK3.bel.block⟩, hK3.cel⟩
  clear hK3 hS hE3
  cases hsp : spentB M.armed M.budget with
  | true =>
    have R : Hid (Ending.returned (.int .i64 7) = Ending.returned (.int .i64 (rmCode M f)) ∧ SlR B w4 s (rmM M f) ∧ StK B w2 w4) := by
      show _ ∧ _ ∧ _
      unfold rmCode rmM Sl.spent
      rw [HOK.out, hsp]
      exact ⟨rfl, hR3, hK0⟩
    clear hsp hR3 hK0
    go_wp2_with fail
    go_ret
    exact R.out
  | false =>
  have HSP := Lib.hid hsp
  clear hsp
  go_upto_region 5 with fail
  refine wp_region_lit ?_
  refine fl_start ?_
  generalize ha : Act.mk _ _ = a0
  have hn : a0.tmps.size = 25 := by rw [← ha]; kernel_rfl
  have h0 : (fr a0 []).eval (.tmp 0) = .pointer (some ⟨s, 0, none⟩) := by rw [← ha]; kernel_rfl
  refine fl_know hn rfl h0 ?_
  clear h0
  have h1 : (fr a0 [(0, true, .pointer (some ⟨s, 0, none⟩))]).eval (.tmp 1) = .int .i64 f := by rw [← ha]; kernel_rfl
  refine fl_know hn rfl h1 ?_
  clear h1
  repeat first | refine g_mv hn ?_ | refine g_as hn ?_ | refine g_fd hn ?_ | refine g_ld hn ?_ | refine g_nc hn ?_ | refine g_nt hn ?_ | refine g_an hn ?_ | refine g_or hn ?_ | refine g_ln hn ?_ | refine g_ex hn ?_ | refine g_neq2 hn ?_ | refine g_neq hn ?_ | refine g_eql2 hn ?_ | refine g_eql hn ?_ | refine g_leq2 hn ?_ | refine g_leq hn ?_ | refine g_lss2 hn ?_ | refine g_lss hn ?_ | refine g_gtr2 hn ?_ | refine g_gtr hn ?_ | refine g_geq2 hn ?_ | refine g_geq hn ?_ | refine g_b0 hn ?_ | refine g_bn hn ?_ | refine g_bc hn ?_ | refine g_cv hn ?_ | refine g_ac hn ?_ | refine g_mc hn ?_
  refine g_c2x enters_forget hn (R := fun _ w5 => SlR B w5 s (M.stepped.forgets f) ∧ StK B w4 w5) ((forget_any B s M.stepped f w4 hR3).mono fun _ _ ⟨he, h1, h2⟩ => ⟨_, he, h1, h2⟩) ?_
  rintro _ w5 ⟨hR5, hK5⟩
  refine fl_end ?_
  clear hn
  subst ha
  dsimp only [fr, cnd, Act.put, cond_true]
  simp only [List.setIfInBounds_toArray, List.set_cons_zero, List.set_cons_succ]
  have hK6 := hK0.trans hK5
  clear hR3 hK0 hK5
  obtain ⟨tg, d1, d2, f1, f2, A, n, c, hX, hsB, hD1, hD2, hO, hP, hb0, hb1, hBW⟩ := hR5
  have a0 := sl_a0 w5 s
  have l0 := sl_l0 hX
  obtain ⟨w6, hr6, ho6, hm6⟩ := run_delI (P := Tryd.prog) (ts := #[41, 3]) (t := 41) rfl mUnd iUnd hD1.mp f
  go_upto_region 6 with fail
  refine wp_region_lit ?_
  refine fl_start ?_
  generalize ha : Act.mk _ _ = a0
  have hn : a0.tmps.size = 25 := by rw [← ha]; kernel_rfl
  have h0 : (fr a0 []).eval (.tmp 0) = .pointer (some ⟨s, 0, none⟩) := by rw [← ha]; kernel_rfl
  refine fl_know hn rfl h0 ?_
  clear h0
  have h1 : (fr a0 [(0, true, .pointer (some ⟨s, 0, none⟩))]).eval (.tmp 1) = .int .i64 f := by rw [← ha]; kernel_rfl
  refine fl_know hn rfl h1 ?_
  clear h1
  repeat first | refine g_mv hn ?_ | refine g_as hn ?_ | refine g_fd hn ?_ | refine g_ld hn ?_ | refine g_nc hn ?_ | refine g_nt hn ?_ | refine g_an hn ?_ | refine g_or hn ?_ | refine g_ln hn ?_ | refine g_ex hn ?_ | refine g_neq2 hn ?_ | refine g_neq hn ?_ | refine g_eql2 hn ?_ | refine g_eql hn ?_ | refine g_leq2 hn ?_ | refine g_leq hn ?_ | refine g_lss2 hn ?_ | refine g_lss hn ?_ | refine g_gtr2 hn ?_ | refine g_gtr hn ?_ | refine g_geq2 hn ?_ | refine g_geq hn ?_ | refine g_b0 hn ?_ | refine g_bn hn ?_ | refine g_bc hn ?_ | refine g_cv hn ?_ | refine g_ac hn ?_ | refine g_mc hn ?_
  refine g_del hr6 ?_
  refine fl_end ?_
  clear hn
  subst ha
  dsimp only [fr, cnd, Act.put, cond_true]
  simp only [List.setIfInBounds_toArray, List.set_cons_zero, List.set_cons_succ]
  have hX6 := hX.mp hD1.mp ho6
  have hD26 := hD2.apart hD1 ho6 (by decide) (by decide)
  have hO6 := hO.mp hD1.mp ho6
  have hK7 := hK6.trans (stk_mp hD1.mp hD1.lo ho6)
  have hD16 := hD1.del ho6 hm6
  have hBW6 : B ≤ w6.heap.size := by rw [ho6.size]; exact hBW
  clear hX hD1 hD2 hO hK6 a0 l0 hr6 hm6 hBW
  have a1 := sl_a1 w6 s
  have l1 := sl_l1 hX6
  obtain ⟨w7, hr7, ho7, hm7⟩ := run_delI (P := Tryd.prog) (ts := #[41, 3]) (t := 41) rfl mUnd iUnd hD26.mp f
  go_upto_region 7 with fail
  refine wp_region_lit ?_
  refine fl_start ?_
  generalize ha : Act.mk _ _ = a0
  have hn : a0.tmps.size = 25 := by rw [← ha]; kernel_rfl
  have h0 : (fr a0 []).eval (.tmp 0) = .pointer (some ⟨s, 0, none⟩) := by rw [← ha]; kernel_rfl
  refine fl_know hn rfl h0 ?_
  clear h0
  have h1 : (fr a0 [(0, true, .pointer (some ⟨s, 0, none⟩))]).eval (.tmp 1) = .int .i64 f := by rw [← ha]; kernel_rfl
  refine fl_know hn rfl h1 ?_
  clear h1
  repeat first | refine g_mv hn ?_ | refine g_as hn ?_ | refine g_fd hn ?_ | refine g_ld hn ?_ | refine g_nc hn ?_ | refine g_nt hn ?_ | refine g_an hn ?_ | refine g_or hn ?_ | refine g_ln hn ?_ | refine g_ex hn ?_ | refine g_neq2 hn ?_ | refine g_neq hn ?_ | refine g_eql2 hn ?_ | refine g_eql hn ?_ | refine g_leq2 hn ?_ | refine g_leq hn ?_ | refine g_lss2 hn ?_ | refine g_lss hn ?_ | refine g_gtr2 hn ?_ | refine g_gtr hn ?_ | refine g_geq2 hn ?_ | refine g_geq hn ?_ | refine g_b0 hn ?_ | refine g_bn hn ?_ | refine g_bc hn ?_ | refine g_cv hn ?_ | refine g_ac hn ?_ | refine g_mc hn ?_
  refine g_del hr7 ?_
  refine fl_end ?_
  clear hn
  subst ha
  dsimp only [fr, cnd, Act.put, cond_true]
  simp only [List.setIfInBounds_toArray, List.set_cons_zero, List.set_cons_succ]
  have R : Hid (Ending.returned (.int .i64 0) = Ending.returned (.int .i64 (rmCode M f)) ∧ SlR B w7 s (rmM M f) ∧ StK B w2 w7) := by
    show _ ∧ _ ∧ _
    unfold rmCode rmM Sl.spent
    rw [HOK.out, HSP.out]
    exact ⟨rfl, ⟨tg, d1, d2, _, _, A, n, c, hX6.mp hD26.mp ho7, hsB, hD16.apart hD26 ho7 (by decide) (by decide), hD26.del ho7 hm7, hO6.mp hD26.mp ho7, hP, hb0, hb1, by rw [ho7.size]; exact hBW6⟩, hK7.trans (stk_mp hD26.mp hD26.lo ho7)⟩
  clear hX6 hD16 hD26 hO6 hK7 a1 l1 hr7 hm7
  go_wp2_with fail
  go_ret
  exact R.out
end Go.Proofs.YtjbmhbnlanbbkaaDoor
