/-
  WHAT IS PROVED: slices.DeleteFunc of writes, upon a row of one's own. Conditions: those typed in each theorem.
-/
import Derived.Test.YtgbopikhdpmmcaaDoorSlDel
namespace Go.Proofs.YtgbopikhdpmmcaaDoor
open Go.RowKit

abbrev notP (p : Pw → Bool) (l : List Pw) : List Pw := l.filter fun x => !p x
/-- How a row is on its way. -/
structure DelI (r c : Nat) (p : Pw → Bool) (l : List Pw) (q : List (Nat × Int)) (w : World) (j i : Nat) (m : List Pw) (wr : World) : Prop where
  len : m.length = l.length
  l6 : ∀ x, x ∈ m → x.l.length = 64
  hd : m.take i = notP p (l.take j)
  tl : m.drop j = l.drop j
  row : ∃ cur, Blk wr r cur 87 ∧ RowC cur c m
  gr : w.grownBy wr (some r)
  rl : r < w.heap.size
  cp : CapK q wr
theorem notp_no {p : Pw → Bool} {l : List Pw} (h : ∀ x, x ∈ l → p x = false) : notP p l = l := List.filter_eq_self.2 fun x hx => by rw [h x hx]; rfl
theorem notp_add {p : Pw → Bool} {l : List Pw} {j : Nat} {x : Pw} (hx : l[j]? = some x) : notP p (l.take (j + 1)) = notP p (l.take j) ++ (if p x then [] else [x]) := by
  unfold notP
  rw [List.take_add_one, hx, List.filter_append]
  cases h : p x <;> simp [h]
theorem gr_only {w a b : World} {r : Nat} (h : w.grownBy a (some r)) (ho : Only1 r a b) : w.grownBy b (some r) := ⟨ho.os.trans h.os, ho.tape.trans h.tape, ho.output.trans h.output, by rw [ho.size]; exact h.size, fun k hk hne => (ho.block k (fun e => hne (by rw [e]))).trans (h.block k hk hne)⟩
theorem gr_below {w a b : World} {r : Nat} (h : w.grownBy a (some r)) (hb : Below a.heap.size a b) : w.grownBy b (some r) := ⟨hb.os.trans h.os, hb.tape.trans h.tape, hb.output.trans h.output, Nat.le_trans h.size hb.size, fun k hk hne => (hb.block k (Nat.lt_of_lt_of_le hk h.size)).trans (h.block k hk hne)⟩
theorem DelI.at_j {r c : Nat} {p : Pw → Bool} {l : List Pw} {q : List (Nat × Int)} {w : World} {j i : Nat} {m : List Pw} {wr : World} (h : DelI r c p l q w j i m wr) {x : Pw} (hx : l[j]? = some x) : m[j]? = some x := by
  have e := congrArg (fun t : List Pw => t[0]?) h.tl
  simp only [List.getElem?_drop, Nat.add_zero] at e
  rw [e, hx]
theorem drop_add {a b : List Pw} {j : Nat} (h : a.drop j = b.drop j) : a.drop (j + 1) = b.drop (j + 1) := by
  rw [← List.drop_drop, ← List.drop_drop, h]
theorem DelI.skip {r c : Nat} {p : Pw → Bool} {l : List Pw} {q : List (Nat × Int)} {w : World} {j i : Nat} {m : List Pw} {wr w2 : World} (h : DelI r c p l q w j i m wr) {x : Pw} (hx : l[j]? = some x) (hp : p x = true) (hb : Below wr.heap.size wr w2) : DelI r c p l q w (j + 1) i m w2 := by
  obtain ⟨cur, h1, h2⟩ := h.row
  refine ⟨h.len, h.l6, ?_, drop_add h.tl, ⟨cur, h1.keep hb, h2⟩, gr_below h.gr hb, h.rl, h.cp.keep hb⟩
  rw [notp_add hx, hp, h.hd]
  simp
theorem DelI.put {r c : Nat} {p : Pw → Bool} {l : List Pw} {q : List (Nat × Int)} {w : World} {j i : Nat} {m : List Pw} {wr w2 w3 : World} (h : DelI r c p l q w j i m wr) (hq : ∀ y, y ∈ q → y.1 ≠ r) {x : Pw} (hx : l[j]? = some x) (hp : p x = false) (hij : i < j) (hb : Below wr.heap.size wr w2) (ho : Only1 r w2 w3) {cur : Array Value} (hR : RowC cur c m) (hX : Blk w3 r (setL cur (i * 66) x.cells.toList) 87) : DelI r c p l q w (j + 1) (i + 1) (m.set i x) w3 := by
  have hj := (List.getElem?_eq_some_iff.1 hx).1
  have hm := h.at_j hx
  have hx6 := h.l6 x (List.mem_of_getElem? hm)
  refine ⟨by rw [List.length_set]; exact h.len, fun y hy => ?_, ?_, ?_, ⟨_, hX, hR.put (by have := h.len; omega) hx6 h.l6⟩, gr_only (gr_below h.gr hb) ho, h.rl, (h.cp.keep hb).only ho hq⟩
  · rcases List.mem_or_eq_of_mem_set hy with h1 | h1
    · exact h.l6 y h1
    · rw [h1]
      exact hx6
  · rw [notp_add hx, hp, ← h.hd, List.take_add_one, List.getElem?_set_self (by have := h.len; omega), List.take_set_of_le (Nat.le_refl _)]
    simp
  · rw [List.drop_set_of_lt (by omega)]
    exact drop_add h.tl
section
variable {P : Program} {l : List Oper} {Q : Exit → Act → World → Prop} {rest : List Oper} {a0 : Act} {L : List (Nat × Bool × Value)} {w : World}
theorem x_slo {i j : Nat} {d : Option Tmp} {t ty : TypeId} {p : String} {af : Array Edge} {gd : Option (Nat × Bool)} {vi vj v : Value} {ρ : Operand → Value} (h : ρ (.tmp i) = vi) (h2 : ρ (.tmp j) = vj) (hr : (Instr.sliceAt t vi (some vj) none none).run P w = .ok v w) : (execOp ρ ⟨d, .slice t (.tmp i) (some (.tmp j)) none none, ty, p, af, gd⟩).run P w = .ok (.value v) w := by
  unfold execOp
  dsimp only [Option.map]
  rw [h, h2, Sem.run_bind, hr]
  rfl
theorem x_shi {i j : Nat} {d : Option Tmp} {t ty : TypeId} {p : String} {af : Array Edge} {gd : Option (Nat × Bool)} {vi vj v : Value} {ρ : Operand → Value} (h : ρ (.tmp i) = vi) (h2 : ρ (.tmp j) = vj) (hr : (Instr.sliceAt t vi none (some vj) none).run P w = .ok v w) : (execOp ρ ⟨d, .slice t (.tmp i) none (some (.tmp j)) none, ty, p, af, gd⟩).run P w = .ok (.value v) w := by
  unfold execOp
  dsimp only [Option.map]
  rw [h, h2, Sem.run_bind, hr]
  rfl
end
theorem sl_lo (W : World) (r n c k : Nat) (h : k < n) (hc : n ≤ c) : (Instr.sliceAt 79 (.slice (some ⟨r, 0, none⟩) n c) (some (.int .i64 k)) none none).run Tryd.prog W = .ok (.slice (some ⟨r, k * 66, none⟩) (n - k) (c - k)) W := by
  have e := add_g r (k * 66)
  have hu : Tryd.prog.underlying 79 = some (.slice (Tryd.prog.elem 79)) := by kernel_rfl
  have hz : (sizeOf (Tryd.prog.elem 79)).run Tryd.prog W = .ok 66 W := by kernel_rfl
  rw [run_sliceAt_slice W _ _ _ _ _ hu, run_slice_l W _ _ _ _ hu _ _ (by omega) (by omega), hz]
  show Result.ok (sliced _ _ _ _ _) W = _
  unfold sliced
  rw [Int.toNat_natCast, if_neg (by omega), Option.map_some, e]
theorem sl_hi (W : World) (r n c k : Nat) (h : k ≤ n) (hc : n ≤ c) : (Instr.sliceAt 79 (.slice (some ⟨r, 0, none⟩) n c) none (some (.int .i64 k)) none).run Tryd.prog W = .ok (.slice (some ⟨r, 0, none⟩) k c) W := by
  have e := add_g r 0
  have hu : Tryd.prog.underlying 79 = some (.slice (Tryd.prog.elem 79)) := by kernel_rfl
  have hz : (sizeOf (Tryd.prog.elem 79)).run Tryd.prog W = .ok 66 W := by kernel_rfl
  rw [run_sliceAt_slice W _ _ _ _ _ hu, run_slice_h W _ _ _ _ hu _ _ (by omega) (by omega), hz]
  show Result.ok (sliced _ _ _ _ _) W = _
  unfold sliced
  rw [Int.toNat_natCast, Option.map_some, Nat.zero_mul, e, ite_self, Nat.sub_zero, Nat.sub_zero]
theorem run_alW (W : World) : (Instr.alloc 87 true (.tuple #[])).run Tryd.prog W = .ok (.pointer (some ⟨W.heap.size, 0, none⟩)) (W.alloc (.cells (⟨0, 0, z64⟩ : Pw).cells 87)) := by kernel_rfl
/-- What DeleteFunc has done. -/
structure DelR (base r n c : Nat) (p : Pw → Bool) (l : List Pw) (w : World) (n2 : Nat) (w' : World) : Prop where
  own : OwnX 87 66 base w' (some ⟨r, 0, none⟩) n2 c ((notP p l).map Pw.cells)
  gr : w.grownBy w' (some r)
set_option maxRecDepth 100000 in
set_option maxHeartbeats 4000000 in
theorem delP_any (g : Nat) (lb : Array Value) (eg : ∀ args w, (callFunc g args).run Tryd.prog w = .ok (.enter g args) w) (p : Pw → Bool) (q : List (Nat × Int)) (base r n c : Nat) (l : List Pw) (w : World) (hO : OwnX 87 66 base w (some ⟨r, 0, none⟩) n c (l.map Pw.cells)) (h64 : ∀ x, x ∈ l → x.l.length = 64) (hp : PredP g lb p q) (hq : CapK q w) (hqr : ∀ y, y ∈ q → y.1 ≠ r) :
    Calls Tryd.prog 46 #[.slice (some ⟨r, 0, none⟩) n c, .func (.func g) #[] lb] w fun e w' => ∃ n2, e = .returned (.slice (some ⟨r, 0, none⟩) n2 c) ∧ DelR base r n c p l w n2 w' := by
  have hn : l.length = n := by have := hO.len; rwa [List.length_map] at this
  have hcap := hO.cap
  have hrl : r < w.heap.size := (hO.blk rfl).2
  obtain ⟨cur0, hX0, hC0, hbr, hcm⟩ := hO.rowc
  have hmx : n ≤ maxLen := Nat.le_trans hcap.1 hcap.2
  have HI := Lib.hid (idxP_any g lb eg p q (some ⟨r, 0, none⟩) n c l w hn hO.rdp h64 hmx hp hq)
  have HP := Lib.hid hp
  have HQ := Lib.hid hqr
  have HO := Lib.hid hO
  have H6 := Lib.hid h64
  have HK := Lib.hid hq
  have HX := Lib.hid hX0
  have HC := Lib.hid hC0
  have HN := Lib.hid hn
  have HCM := Lib.hid hcm
  have hnc := hcap.1
  clear hp hqr hO h64 hq hX0 hC0 hcap hn hcm
  unfold maxLen at hmx
  go_enter Tryd.func46, Tryd.ntmps46
  go_upto_region 1 with fail
  refine wp_region_lit ?_
  refine fl_start ?_
  generalize ha : Act.mk _ _ = a0
  have hn : a0.tmps.size = 42 := by rw [← ha]; kernel_rfl
  have h0 : (fr a0 []).eval (.tmp 0) = .slice (some ⟨r, 0, none⟩) n c := by rw [← ha]; kernel_rfl
  refine fl_know hn rfl h0 ?_
  clear h0
  have h1 : (fr a0 [(0, true, .slice (some ⟨r, 0, none⟩) n c)]).eval (.tmp 1) = .func (.func g) #[] lb := by rw [← ha]; kernel_rfl
  refine fl_know hn rfl h1 ?_
  clear h1
  repeat first | refine g_mv hn ?_ | refine g_as hn ?_ | refine g_fd hn ?_ | refine g_ld hn ?_ | refine g_nc hn ?_ | refine g_nt hn ?_ | refine g_an hn ?_ | refine g_or hn ?_ | refine g_ln hn ?_ | refine g_ex hn ?_ | refine g_neq2 hn ?_ | refine g_neq hn ?_ | refine g_eql2 hn ?_ | refine g_eql hn ?_ | refine g_leq2 hn ?_ | refine g_leq hn ?_ | refine g_lss2 hn ?_ | refine g_lss hn ?_ | refine g_gtr2 hn ?_ | refine g_gtr hn ?_ | refine g_geq2 hn ?_ | refine g_geq hn ?_ | refine g_b0 hn ?_ | refine g_bn hn ?_ | refine g_bc hn ?_ | refine g_cv hn ?_ | refine g_ac hn ?_ | refine g_mc hn ?_
  refine g_c2x enters_Idx hn (R := fun v w2 => ∃ z : Int, v = .int .i64 z ∧ IdxR p l z ∧ Below w.heap.size w w2) (HI.out.mono fun _ _ ⟨⟨z, he, hz⟩, hb⟩ => ⟨_, he, z, rfl, hz, hb⟩) ?_
  rintro v w2 ⟨z, rfl, hz, hb2⟩
  repeat first | refine g_mv hn ?_ | refine g_as hn ?_ | refine g_fd hn ?_ | refine g_ld hn ?_ | refine g_nc hn ?_ | refine g_nt hn ?_ | refine g_an hn ?_ | refine g_or hn ?_ | refine g_ln hn ?_ | refine g_ex hn ?_ | refine g_neq2 hn ?_ | refine g_neq hn ?_ | refine g_eql2 hn ?_ | refine g_eql hn ?_ | refine g_leq2 hn ?_ | refine g_leq hn ?_ | refine g_lss2 hn ?_ | refine g_lss hn ?_ | refine g_gtr2 hn ?_ | refine g_gtr hn ?_ | refine g_geq2 hn ?_ | refine g_geq hn ?_ | refine g_b0 hn ?_ | refine g_bn hn ?_ | refine g_bc hn ?_ | refine g_cv hn ?_ | refine g_ac hn ?_ | refine g_mc hn ?_
  refine fl_end ?_
  clear hn
  subst ha
  dsimp only [fr, cnd, Act.put, cond_true]
  simp only [List.setIfInBounds_toArray, List.set_cons_zero, List.set_cons_succ]
  rcases hz with ⟨rfl, hno⟩ | ⟨k, x, rfl, hx, hpx, hno⟩
  · have R : Hid (DelR base r n c p l w n w2) := ⟨by rw [notp_no hno]; exact HO.out.keep hb2, ⟨hb2.os, hb2.tape, hb2.output, hb2.size, fun k hk _ => hb2.block k hk⟩⟩
    clear hno HO
    go_wp2_with fail
    go_ret
    exact ⟨_, rfl, R.out⟩
  have hkn : k < n := by
    have := (List.getElem?_eq_some_iff.1 hx).1
    have := HN.out
    omega
  have D0 : Hid (DelI r c p l q w (k + 1) k l w2) := by
    refine ⟨rfl, H6.out, ?_, rfl, ⟨cur0, HX.out.keep hb2, HC.out⟩, ⟨hb2.os, hb2.tape, hb2.output, hb2.size, fun k hk _ => hb2.block k hk⟩, hrl, HK.out.keep hb2⟩
    rw [notp_add hx, hpx, notp_no hno]
    simp
  clear hno hpx hx HI HO
  have hk1 : ¬ ((k : Int) = -1) := by omega
  go_wp2_with fail
  go_loopw [5, 6, 7] (fun u i _ wr => ∃ (j k2 : Nat) (m : List Pw), u = .int .i64 k2 ∧ i = .int .i64 j ∧ k2 < j ∧ j ≤ n ∧ Hid (DelI r c p l q w j k2 m wr)) (fun _ i _ _ => n - (intOf i).toNat)
  case atStart => exact ⟨k + 1, k, l, rfl, by go_num, by omega, by omega, D0⟩
  case round =>
    clear D0
    obtain ⟨j, k2, m, rfl, rfl, hkj, hjn, hD⟩ := hrel
    by_cases hlt : j < n
    · obtain ⟨x, hx⟩ : ∃ x, l[j]? = some x := ⟨_, List.getElem?_eq_getElem (show j < l.length by have := HN.out; omega)⟩
      have hD' := hD.out
      have hxm := hD'.at_j hx
      have hx6 := hD'.l6 x (List.mem_of_getElem? hxm)
      obtain ⟨cur, hXr, hRr⟩ := hD'.row
      have i1 : (0 : Int) ≤ (j : Int) := by omega
      have i2 : (j : Int) < (n : Int) := by omega
      have k1 := ix_p wr r n c j hlt
      have e2 := ld_p (W := wr) (g := r) (k := j) hx6 (fun t v hv => (hXr.cell _).trans (hRr.2.2 j x hxm t v hv))
      have hcp := hD'.cp
      clear hD'
      go_upto_region 7 with fail
      refine wp_region_lit ?_
      refine fl_start ?_
      generalize ha : Act.mk _ _ = a0
      have hn : a0.tmps.size = 42 := by rw [← ha]; kernel_rfl
      have h0 : (fr a0 []).eval (.tmp 0) = .slice (some ⟨r, 0, none⟩) n c := by rw [← ha]; kernel_rfl
      refine fl_know hn rfl h0 ?_
      clear h0
      have h6 : (fr a0 [(0, true, .slice (some ⟨r, 0, none⟩) n c)]).eval (.tmp 6) = .int .i64 j := by rw [← ha]; kernel_rfl
      refine fl_know hn rfl h6 ?_
      clear h6
      repeat first | refine g_mv hn ?_ | refine g_as hn ?_ | refine g_ix hn ?_ | refine g_fd hn ?_ | refine g_ld hn ?_ | refine g_nc hn ?_ | refine g_nt hn ?_ | refine g_an hn ?_ | refine g_or hn ?_ | refine g_ln hn ?_ | refine g_ex hn ?_ | refine g_neq2 hn ?_ | refine g_neq hn ?_ | refine g_eql2 hn ?_ | refine g_eql hn ?_ | refine g_leq2 hn ?_ | refine g_leq hn ?_ | refine g_lss2 hn ?_ | refine g_lss hn ?_ | refine g_gtr2 hn ?_ | refine g_gtr hn ?_ | refine g_geq2 hn ?_ | refine g_geq hn ?_ | refine g_b0 hn ?_ | refine g_bn hn ?_ | refine g_bc hn ?_ | refine g_cv hn ?_ | refine g_ac hn ?_ | refine g_mc hn ?_
      refine g_w hn (w2 := wr.alloc (.cells (⟨0, 0, z64⟩ : Pw).cells 87)) (v := .pointer (some ⟨wr.heap.size, 0, none⟩)) (fun _ => by unfold execOp; dsimp only; rw [Sem.run_bind, run_alW]; rfl) ?_
      have hY := blk_new wr (⟨0, 0, z64⟩ : Pw).cells 87
      have hB := b0 wr (.cells (⟨0, 0, z64⟩ : Pw).cells 87)
      generalize wr.alloc (.cells (⟨0, 0, z64⟩ : Pw).cells 87) = w3 at hY hB ⊢
      generalize hb7 : wr.heap.size = b7 at hY hB ⊢
      refine g_str hY ?_ (hs := by rw [pw_size hx6]; exact pw_size rfl) (hi := by rw [pw_size hx6]; kernel_rfl) (h1 := pw_one _)
      intro w4 ho4 hY4
      refine fl_end ?_
      clear hn
      subst ha
      dsimp only [fr, cnd, Act.put, cond_true]
      simp only [List.setIfInBounds_toArray, List.set_cons_zero, List.set_cons_succ]
      replace hB : Below wr.heap.size wr w4 := by
        rw [hb7]
        exact hB.trans (ho4.below (Nat.le_refl _))
      clear k1 e2 hY ho4
      have l7 := pw_la hY4 hx6
      have HG := Lib.hid (HP.out x hx6 w4 (hcp.keep hB))
      go_upto_region 8 with fail
      refine wp_region_lit ?_
      refine fl_start ?_
      generalize ha : Act.mk _ _ = a0
      have hn : a0.tmps.size = 42 := by rw [← ha]; kernel_rfl
      have h1 : (fr a0 []).eval (.tmp 1) = .func (.func g) #[] lb := by rw [← ha]; kernel_rfl
      refine fl_know hn rfl h1 ?_
      clear h1
      have h7 : (fr a0 [(1, true, .func (.func g) #[] lb)]).eval (.tmp 7) = .pointer (some ⟨b7, 0, none⟩) := by rw [← ha]; kernel_rfl
      refine fl_know hn rfl h7 ?_
      clear h7
      repeat first | refine g_mv hn ?_ | refine g_as hn ?_ | refine g_fd hn ?_ | refine g_ld hn ?_ | refine g_nc hn ?_ | refine g_nt hn ?_ | refine g_an hn ?_ | refine g_or hn ?_ | refine g_ln hn ?_ | refine g_ex hn ?_ | refine g_neq2 hn ?_ | refine g_neq hn ?_ | refine g_eql2 hn ?_ | refine g_eql hn ?_ | refine g_leq2 hn ?_ | refine g_leq hn ?_ | refine g_lss2 hn ?_ | refine g_lss hn ?_ | refine g_gtr2 hn ?_ | refine g_gtr hn ?_ | refine g_geq2 hn ?_ | refine g_geq hn ?_ | refine g_b0 hn ?_ | refine g_bn hn ?_ | refine g_bc hn ?_ | refine g_cv hn ?_ | refine g_ac hn ?_ | refine g_mc hn ?_
      refine g_cf eg hn (R := fun v w2 => v = .bool (p x) ∧ Below w4.heap.size w4 w2) (HG.out.mono fun _ _ ⟨he, hb⟩ => ⟨_, he, rfl, hb⟩) ?_
      rintro v w5 ⟨rfl, hb5⟩
      repeat first | refine g_mv hn ?_ | refine g_as hn ?_ | refine g_fd hn ?_ | refine g_ld hn ?_ | refine g_nc hn ?_ | refine g_nt hn ?_ | refine g_an hn ?_ | refine g_or hn ?_ | refine g_ln hn ?_ | refine g_ex hn ?_ | refine g_neq2 hn ?_ | refine g_neq hn ?_ | refine g_eql2 hn ?_ | refine g_eql hn ?_ | refine g_leq2 hn ?_ | refine g_leq hn ?_ | refine g_lss2 hn ?_ | refine g_lss hn ?_ | refine g_gtr2 hn ?_ | refine g_gtr hn ?_ | refine g_geq2 hn ?_ | refine g_geq hn ?_ | refine g_b0 hn ?_ | refine g_bn hn ?_ | refine g_bc hn ?_ | refine g_cv hn ?_ | refine g_ac hn ?_ | refine g_mc hn ?_
      refine fl_end ?_
      clear hn
      subst ha
      dsimp only [fr, cnd, Act.put, cond_true]
      simp only [List.setIfInBounds_toArray, List.set_cons_zero, List.set_cons_succ]
      have hB5 : Below wr.heap.size wr w5 := hB.trans (hb5.mono hB.size)
      have hY5 := hY4.keep hb5
      clear l7 HG hY4 hb5 hB
      cases hpx : p x with
      | true =>
        have D2 := Lib.hid (hD.out.skip hx hpx hB5)
        clear hD hpx hx hxm hY5 hXr hRr hB5 hcp
        go_wp2_with fail
        go_roundw
        case rel => exact ⟨j + 1, k2, m, rfl, by go_num, by omega, by omega, D2⟩
        case measure => simp [intOf]; omega
      | false =>
        have l7 := pw_la hY5 hx6
        have k1 := ix_p w5 r n c k2 (by omega)
        have hXr5 := hXr.keep hB5
        have hcs : cur.size = c * 66 := hRr.1
        go_upto_region 9 with fail
        refine wp_region_lit ?_
        refine fl_start ?_
        generalize ha : Act.mk _ _ = a0
        have hn : a0.tmps.size = 42 := by rw [← ha]; kernel_rfl
        have h0 : (fr a0 []).eval (.tmp 0) = .slice (some ⟨r, 0, none⟩) n c := by rw [← ha]; kernel_rfl
        refine fl_know hn rfl h0 ?_
        clear h0
        have h5 : (fr a0 [(0, true, .slice (some ⟨r, 0, none⟩) n c)]).eval (.tmp 5) = .int .i64 k2 := by rw [← ha]; kernel_rfl
        refine fl_know hn rfl h5 ?_
        clear h5
        have h7 : (fr a0 [(5, true, .int .i64 k2), (0, true, .slice (some ⟨r, 0, none⟩) n c)]).eval (.tmp 7) = .pointer (some ⟨b7, 0, none⟩) := by rw [← ha]; kernel_rfl
        refine fl_know hn rfl h7 ?_
        clear h7
        repeat first | refine g_mv hn ?_ | refine g_as hn ?_ | refine g_ix hn ?_ | refine g_fd hn ?_ | refine g_ld hn ?_ | refine g_nc hn ?_ | refine g_nt hn ?_ | refine g_an hn ?_ | refine g_or hn ?_ | refine g_ln hn ?_ | refine g_ex hn ?_ | refine g_neq2 hn ?_ | refine g_neq hn ?_ | refine g_eql2 hn ?_ | refine g_eql hn ?_ | refine g_leq2 hn ?_ | refine g_leq hn ?_ | refine g_lss2 hn ?_ | refine g_lss hn ?_ | refine g_gtr2 hn ?_ | refine g_gtr hn ?_ | refine g_geq2 hn ?_ | refine g_geq hn ?_ | refine g_b0 hn ?_ | refine g_bn hn ?_ | refine g_bc hn ?_ | refine g_cv hn ?_ | refine g_ac hn ?_ | refine g_mc hn ?_
        refine g_stm hXr5 ?_ (hs := by rw [pw_size hx6, hcs]; omega) (hi := by rw [pw_size hx6]; kernel_rfl) (h1 := pw_one _)
        intro w6 ho6 hX6
        refine fl_end ?_
        clear hn
        subst ha
        dsimp only [fr, cnd, Act.put, cond_true]
        simp only [List.setIfInBounds_toArray, List.set_cons_zero, List.set_cons_succ]
        have D2 := Lib.hid (hD.out.put HQ.out hx hpx hkj hB5 ho6 hRr hX6)
        clear hD hpx hx hxm hY5 hXr hRr hB5 l7 k1 hXr5 hX6 hcp
        go_wp2_with fail
        go_roundw
        case rel => exact ⟨j + 1, k2 + 1, m.set k2 x, by go_num, by go_num, by omega, by omega, D2⟩
        case measure => simp [intOf]; omega
    · have hq : ¬ (j : Int) < (n : Int) := by omega
      have ej : j = n := by omega
      subst ej
      have hD' := hD.out
      obtain ⟨cur, hXr, hRr⟩ := hD'.row
      have hm : m.length = j := hD'.len.trans HN.out
      have e1 := sl_lo wr r j c k2 hkj hnc
      have hcs : cur.size = c * 66 := hRr.1
      go_upto_region 11 with fail
      refine wp_region_lit ?_
      refine fl_start ?_
      generalize ha : Act.mk _ _ = a0
      have hn : a0.tmps.size = 42 := by rw [← ha]; kernel_rfl
      have h0 : (fr a0 []).eval (.tmp 0) = .slice (some ⟨r, 0, none⟩) j c := by rw [← ha]; kernel_rfl
      refine fl_know hn rfl h0 ?_
      clear h0
      have h5 : (fr a0 [(0, true, .slice (some ⟨r, 0, none⟩) j c)]).eval (.tmp 5) = .int .i64 k2 := by rw [← ha]; kernel_rfl
      refine fl_know hn rfl h5 ?_
      clear h5
      repeat first | refine g_mv hn ?_ | refine g_as hn ?_ | refine g_fd hn ?_ | refine g_ld hn ?_ | refine g_nc hn ?_ | refine g_nt hn ?_ | refine g_an hn ?_ | refine g_or hn ?_ | refine g_ln hn ?_ | refine g_ex hn ?_ | refine g_neq2 hn ?_ | refine g_neq hn ?_ | refine g_eql2 hn ?_ | refine g_eql hn ?_ | refine g_leq2 hn ?_ | refine g_leq hn ?_ | refine g_lss2 hn ?_ | refine g_lss hn ?_ | refine g_gtr2 hn ?_ | refine g_gtr hn ?_ | refine g_geq2 hn ?_ | refine g_geq hn ?_ | refine g_b0 hn ?_ | refine g_bn hn ?_ | refine g_bc hn ?_ | refine g_cv hn ?_ | refine g_ac hn ?_ | refine g_mc hn ?_
      refine g_o2 hn (i := 36) (j := 37) (vi := .slice (some ⟨r, 0, none⟩) j c) (vj := .int .i64 k2) (v := .slice (some ⟨r, k2 * 66, none⟩) (j - k2) (c - k2)) (fun ρ h1 h2 _ => x_slo h1 h2 e1) ?_
      obtain ⟨w7, vs, hcl, ho7, hX7⟩ := run_clrP wr r (k2 * 66) (j - k2) (c - k2) cur _ hXr (by rw [hcs]; omega)
      refine g_clr hcl ?_
      refine fl_end ?_
      clear hn
      subst ha
      dsimp only [fr, cnd, Act.put, cond_true]
      simp only [List.setIfInBounds_toArray, List.set_cons_zero, List.set_cons_succ]
      have e2 := sl_hi w7 r j c k2 (by omega) hnc
      go_upto_region 12 with fail
      refine wp_region_lit ?_
      refine fl_start ?_
      generalize ha : Act.mk _ _ = a0
      have hn : a0.tmps.size = 42 := by rw [← ha]; kernel_rfl
      have h0 : (fr a0 []).eval (.tmp 0) = .slice (some ⟨r, 0, none⟩) j c := by rw [← ha]; kernel_rfl
      refine fl_know hn rfl h0 ?_
      clear h0
      have h5 : (fr a0 [(0, true, .slice (some ⟨r, 0, none⟩) j c)]).eval (.tmp 5) = .int .i64 k2 := by rw [← ha]; kernel_rfl
      refine fl_know hn rfl h5 ?_
      clear h5
      repeat first | refine g_mv hn ?_ | refine g_as hn ?_ | refine g_fd hn ?_ | refine g_ld hn ?_ | refine g_nc hn ?_ | refine g_nt hn ?_ | refine g_an hn ?_ | refine g_or hn ?_ | refine g_ln hn ?_ | refine g_ex hn ?_ | refine g_neq2 hn ?_ | refine g_neq hn ?_ | refine g_eql2 hn ?_ | refine g_eql hn ?_ | refine g_leq2 hn ?_ | refine g_leq hn ?_ | refine g_lss2 hn ?_ | refine g_lss hn ?_ | refine g_gtr2 hn ?_ | refine g_gtr hn ?_ | refine g_geq2 hn ?_ | refine g_geq hn ?_ | refine g_b0 hn ?_ | refine g_bn hn ?_ | refine g_bc hn ?_ | refine g_cv hn ?_ | refine g_ac hn ?_ | refine g_mc hn ?_
      refine g_o2 hn (i := 39) (j := 40) (vi := .slice (some ⟨r, 0, none⟩) j c) (vj := .int .i64 k2) (v := .slice (some ⟨r, 0, none⟩) k2 c) (fun ρ h1 h2 _ => x_shi h1 h2 e2) ?_
      repeat first | refine g_mv hn ?_ | refine g_as hn ?_ | refine g_fd hn ?_ | refine g_ld hn ?_ | refine g_nc hn ?_ | refine g_nt hn ?_ | refine g_an hn ?_ | refine g_or hn ?_ | refine g_ln hn ?_ | refine g_ex hn ?_ | refine g_neq2 hn ?_ | refine g_neq hn ?_ | refine g_eql2 hn ?_ | refine g_eql hn ?_ | refine g_leq2 hn ?_ | refine g_leq hn ?_ | refine g_lss2 hn ?_ | refine g_lss hn ?_ | refine g_gtr2 hn ?_ | refine g_gtr hn ?_ | refine g_geq2 hn ?_ | refine g_geq hn ?_ | refine g_b0 hn ?_ | refine g_bn hn ?_ | refine g_bc hn ?_ | refine g_cv hn ?_ | refine g_ac hn ?_ | refine g_mc hn ?_
      refine fl_end ?_
      clear hn
      subst ha
      dsimp only [fr, cnd, Act.put, cond_true]
      simp only [List.setIfInBounds_toArray, List.set_cons_zero, List.set_cons_succ]
      have hR7 := hRr.behind k2 vs hD'.l6
      have hd : m.take k2 = notP p l := by rw [hD'.hd, List.take_of_length_le (by have := HN.out; omega)]
      have R : Hid (DelR base r j c p l w k2 w7) := by
        refine ⟨?_, gr_only hD'.gr ho7⟩
        rw [← hd]
        exact hR7.own hX7 hbr HCM.out (by rw [List.length_take]; omega) fun y hy => hD'.l6 y (List.mem_of_mem_take hy)
      clear hD' hD hXr hRr hX7 hR7 hcl e1 e2
      go_wp2_with fail
      go_ret
      exact ⟨_, rfl, R.out⟩
end Go.Proofs.YtgbopikhdpmmcaaDoor
