/-
  WHAT IS PROVED: of the document's slate: Put, Flush, Remove upon a new one: that they answer, and touch nothing of old. Conditions: those typed in each theorem.
-/
import Derived.Test.YtjbmhbnlanbbkaaDoorGQ9
import Derived.Test.YtjbmhbnlanbbkaaDoorSlWrite
import Derived.Test.YtjbmhbnlanbbkaaDoorGQ8
import Derived.Test.YtjbmhbnlanbbkaaDoorGQ1
namespace Go.Proofs.YtjbmhbnlanbbkaaDoor
open Go.RowKit

theorem en_spinney_spinneyref09_Place : ∀ args w, (callFunc 7 args).run Tryd.prog w = .ok (.enter 7 args) w := enters_of Tryd.func7 (by kernel_rfl) rfl
theorem en_spinney_spinneyref09_step : ∀ args w, (callFunc 30 args).run Tryd.prog w = .ok (.enter 30 args) w := enters_of Tryd.func30 (by kernel_rfl) rfl
theorem en_spinney_spinneyref09_without : ∀ args w, (callFunc 31 args).run Tryd.prog w = .ok (.enter 31 args) w := enters_of Tryd.func31 (by kernel_rfl) rfl

section
variable {P : Program} {l : List Oper} {Q : Exit → Act → World → Prop} {S : World → Prop} {fuel : Nat} {listed : Array Bool} {a0 : Act} {L : List (Nat × Bool × Value)} {w : World}
theorem fh_three {i j k : Nat} (hr : Region.ready .any l.toArray listed = [i, j, k]) (h1 : FHone P l Q S fuel listed a0 L w i) (h2 : FHone P l Q S fuel listed a0 L w j) (h3 : FHone P l Q S fuel listed a0 L w k) : FH P l Q S (fuel + 1) listed a0 L w := by
  refine ⟨fun hk => wpAnyH_all hr (by simp) fun m hm => ?_⟩
  rcases List.mem_cons.1 hm with rfl | hm
  · exact h1 hk
  · rcases List.mem_cons.1 hm with rfl | hm
    · exact h2 hk
    · have e : m = k := by simpa using hm
      subst e
      exact h3 hk
end
abbrev tRw : TypeId := 70
abbrev rsS (A : Option Addr) (n c : Nat) (A2 : Option Addr) (n2 c2 : Nat) : Array Value := #[.slice A n c, .slice A2 n2 c2, .int .i64 (-1), .bool false]
def RWk (w : World) (e : Ending) (w' : World) : Prop := ∃ (A : Option Addr) (n c : Nat) (A2 : Option Addr) (n2 c2 : Nat), e = .returned (.tuple #[.agg (rsS A n c A2 n2 c2), .int .i64 0]) ∧ Below w.heap.size w w'
theorem bel_unB {b : Nat} {w w' : World} (h : Below b w.drew w') : Below b w w' := ⟨h.os, h.tape, h.output, h.size, h.block⟩
theorem rw_info : (Tryd.prog.info? tRw).map (fun i => (i.zero, i.size, i.bytes)) = some (some (.agg (⟨0, 0, z64⟩ : Pw).cells), 66, 80) := by kernel_rfl
theorem rw_setB (f b : Int) (l : List UInt8) (j : Nat) (u : UInt8) : (Pw.cells ⟨f, b, l⟩).setIfInBounds (2 + j) (.int .u8 (u.toNat : Int)) = Pw.cells ⟨f, b, l.set j u⟩ := by
  have e : (bkA l).setIfInBounds j (.int .u8 (u.toNat : Int)) = bkA (l.set j u) := by
    unfold bkA
    rw [List.setIfInBounds_toArray, List.map_set]
  unfold Pw.cells
  rw [← e, Array.setIfInBounds_append_right (by simp)]
  simp
theorem rw_la {W : World} {b : Nat} {x : Pw} {t : TypeId} (h : Blk W b x.cells t) (hl : x.l.length = 64) : (Instr.loadAt 70 (.pointer (some ⟨b, 0, none⟩))).run Tryd.prog W = .ok (.agg x.cells) W := by
  have hi : (Tryd.prog.info? 70).map (·.size) = some 66 := by kernel_rfl
  have := run_loadAt_mid (P := Tryd.prog) W b 0 70 x.cells.toList _ (fun j v hv => by rw [Nat.zero_add]; exact (h.cell j).trans ((Array.getElem?_toList ..).symm.trans hv)) Tryd.underlying70 rfl (by rw [hi, Array.length_toList, pw_size hl])
  simpa using this
theorem rw_f2 (W : World) (b : Nat) : (Instr.fieldAt 70 (.pointer (some ⟨b, 0, none⟩)) 2).run Tryd.prog W = .ok (.pointer (some ⟨b, 2, none⟩)) W := by kernel_rfl
theorem ix_aB (W : World) (g j : Nat) (h : j < 64) : (Instr.indexAt 59 (.pointer (some ⟨g, 2, none⟩)) (.int .i64 (j : Int))).run Tryd.prog W = .ok (.pointer (some ⟨g, 2 + j, none⟩)) W := by
  have hz : Tryd.prog.arrayLen 59 = 64 := by kernel_rfl
  have i1 : (0 : Int) ≤ (j : Int) := by omega
  have i2 : (j : Int) < 64 := by omega
  have e : (⟨g, 2, none⟩ : Addr).add j = ⟨g, 2 + j, none⟩ := by
    unfold Addr.add
    split
    · next h => rw [h]
    · rfl
  go_simp
theorem st_u8B {W : World} {b j : Nat} {cs : Array Value} {T : TypeId} (hX : Blk W b cs T) (hj : j < cs.size) (u : UInt8) : (Instr.storeAt 5 (.pointer (some ⟨b, j, none⟩)) (.int .u8 (u.toNat : Int))).run Tryd.prog W = .ok () (W.setCell ⟨b, j, none⟩ (.int .u8 (u.toNat : Int))) := by
  obtain ⟨v, hv⟩ := blk_some hX hj
  have hf := hX.free j
  clear hX
  go_simp
theorem ld_u8B {W : World} {a : Addr} {c : Int} (h : W.cell? a = some (.int .u8 c)) : (Instr.loadAt 5 (.pointer (some a))).run Tryd.prog W = .ok (.int .u8 c) W := by go_simp
theorem bixB (W : World) (ad : Addr) (n c k : Nat) (h : k < n) : (Instr.indexAt 28 (.slice (some ad) n c) (.int .i64 (k : Int))).run Tryd.prog W = .ok (.pointer (some (ad.add k))) W := by
  have i1 : (0 : Int) ≤ (k : Int) := by omega
  have i2 : (k : Int) < (n : Int) := by omega
  go_simp
theorem rs_stA {W : World} {g j : Nat} {cs : Array Value} {t : TypeId} (h : Blk W g cs t) (hj : j < cs.size) (A : Option Addr) (n c : Nat) : (Instr.storeAt 33 (.pointer (some ⟨g, j, none⟩)) (.slice A n c)).run Tryd.prog W = .ok () (W.setCell ⟨g, j, none⟩ (.slice A n c)) := by
  obtain ⟨u, hu⟩ := blk_some h hj
  have hf := h.free j
  clear h
  go_simp
theorem rs_lA {W : World} {g j : Nat} {A : Option Addr} {n c : Nat} (q : W.cell? ⟨g, j, none⟩ = some (.slice A n c)) : (Instr.loadAt 33 (.pointer (some ⟨g, j, none⟩))).run Tryd.prog W = .ok (.slice A n c) W := by
  go_simp
theorem bdRw (W : World) (f b : Int) : (Instr.build 70 #[(0, .int .i64 f), (1, .int .i64 b)]).run Tryd.prog W = .ok (.agg (⟨f, b, z64⟩ : Pw).cells) W := by kernel_rfl
theorem alRw (w : World) : (Instr.alloc 70 true (.tuple #[])).run Tryd.prog w = .ok (.pointer (some ⟨w.heap.size, 0, none⟩)) (w.alloc (.cells (⟨0, 0, z64⟩ : Pw).cells 70)) := by kernel_rfl
theorem x_alRw {w : World} {ρ : Operand → Value} {d : Option Tmp} {ty : TypeId} {p : String} {af : Array Edge} {gd : Option (Nat × Bool)} : (execOp ρ ⟨d, .alloc 70, ty, p, af, gd⟩).run Tryd.prog w = .ok (.value (.pointer (some ⟨w.heap.size, 0, none⟩))) (w.alloc (.cells (⟨0, 0, z64⟩ : Pw).cells 70)) := by
  unfold execOp
  dsimp only
  rw [Sem.run_bind, alRw]
  rfl
theorem bsW0 (w : World) : (Instr.buildSlice 33 0 #[]).run Tryd.prog w = .ok (.slice (some ⟨w.heap.size, 0, none⟩) 0 0) (w.alloc (.cells #[] 70)) := by kernel_rfl
theorem x_bsW0 {w : World} {ρ : Operand → Value} {d : Option Tmp} {ty : TypeId} {p : String} {af : Array Edge} {gd : Option (Nat × Bool)} : (execOp ρ ⟨d, .buildSlice 33 0 #[], ty, p, af, gd⟩).run Tryd.prog w = .ok (.value (.slice (some ⟨w.heap.size, 0, none⟩) 0 0)) (w.alloc (.cells #[] 70)) := by
  unfold execOp
  dsimp only
  have e : (#[] : Array (Nat × Operand)).map (fun x => (x.fst, ρ x.snd)) = #[] := by simp
  have h := bsW0 w
  rw [← e] at h
  rw [Sem.run_bind]
  refine (congrArg (fun r => Result.andThen r _) h).trans ?_
  rfl
theorem own0Rw (w : World) (base : Nat) (h : base ≤ w.heap.size) : OwnX tRw 66 base (w.alloc (.cells #[] tRw)) (some ⟨w.heap.size, 0, none⟩) 0 0 [] :=
  ⟨⟨rfl, .inr ⟨w.heap.size, 0, #[], rfl, h, blk_new w #[] tRw, Nat.le_refl _, Nat.zero_le _, rfl, rfl⟩⟩, fun _ h => by simp at h, rfl⟩
theorem run_apNilW (w : World) (a : Addr) (n c d : Nat) (ty : TypeId) (h : n ≤ c) : (Builtin.append_ #[33, 33] ty #[.slice (some a) n c, .slice none 0 d]).run Tryd.prog w = .ok (.slice (some a) n c) w := by
  obtain ⟨i0, hi0, hz1, hs0, hb0⟩ := info_parts rw_info
  have ht : Tryd.prog.underlying 33 = some (.slice 70) := by kernel_rfl
  simp [Builtin.append_, run_underlying ht, sizeOf, typeInfo, hi0, Builtin.lenOf, Builtin.firstCells, h, storeCells]
theorem bsW1 (x : Pw) (hl : x.l.length = 64) (w : World) : (Instr.buildSlice 33 1 #[(0, .agg x.cells)]).run Tryd.prog w = .ok (.slice (some ⟨w.heap.size, 0, none⟩) 1 1) (w.alloc (.cells x.cells 70)) := by
  obtain ⟨i0, hi0, hz0, hs0, hy0⟩ := info_parts rw_info
  have h66 : x.cells.size = 66 := pw_size hl
  refine run_buildSlice w 33 70 1 _ x.cells i0 _ Tryd.underlying33 hi0 hz0 (by rw [hs0]; decide) (by rw [hs0]; decide) ?_
  rw [hs0]
  have := fill_one x.cells ((Array.range (1 * 66)).map ((Value.agg (Pw.cells ⟨0, 0, z64⟩)).cells[· % (Value.agg (Pw.cells ⟨0, 0, z64⟩)).cells.size]!)) (by rw [h66]; simp) rfl
  rw [h66] at this
  exact this
theorem x_bsW1 {w : World} {ρ : Operand → Value} {d : Option Tmp} {i : Nat} {x : Pw} {ty : TypeId} {p : String} {af : Array Edge} {gd : Option (Nat × Bool)} (hl : x.l.length = 64) (h : ρ (.tmp i) = .agg x.cells) : (execOp ρ ⟨d, .buildSlice 33 1 #[(0, .tmp i)], ty, p, af, gd⟩).run Tryd.prog w = .ok (.value (.slice (some ⟨w.heap.size, 0, none⟩) 1 1)) (w.alloc (.cells x.cells 70)) := by
  unfold execOp
  simp only [List.map_toArray, List.map_cons, List.map_nil, h, Sem.run_bind, bsW1 x hl, Sem.run_pure, Result.andThen_ok]
/-- One write appended onto a row of the call's own. -/
theorem run_apW1 {base g : Nat} (w : World) {a : Addr} {x : Pw} {ty : TypeId} (hl : x.l.length = 64) (hown : OwnX tRw 66 base w (some a) 0 0 []) (hX : Blk w g x.cells tRw) (hbase : base ≤ w.heap.size) :
    ∃ A' c' w2, (Builtin.append_ #[33, 33] ty #[.slice (some a) 0 0, .slice (some ⟨g, 0, none⟩) 1 1]).run Tryd.prog w = .ok (.slice A' 1 c') w2 ∧ Below base w w2 := by
  obtain ⟨j0, hj0, hj1, hj2, hj3⟩ := info_parts rw_info
  obtain ⟨A4, c4, w4, hr4, hO4, hb4, hA4, hst4, hwh4⟩ := run_apM (P := Tryd.prog) (ty := ty) (base := base) (ad := ⟨g, 0, none⟩) (m := 1) (d := 1) (xs := [x.cells]) w Tryd.underlying33 Tryd.underlying33 hj0 hj1 hj2 hj3 (pw_size rfl) (by decide) (by decide) hown (fun cs hc => by
    rw [List.mem_singleton] at hc
    subst hc
    exact pw_size hl) rfl (fun y hy u hu => by
    rw [List.mem_singleton] at hy
    subst hy
    have h3 := pw_one x
    rw [Array.all_eq_true'] at h3
    exact h3 u (by simpa using hu)) (fun k y hy j v hv => by
    match k, hy with
    | 0, hy =>
      have e : x.cells = y := by simpa using hy
      subst e
      rw [Nat.zero_mul, Nat.zero_add, zeroX_at, hX.cell j]
      exact hv) (by omega) hbase (.inl (by simp))
  exact ⟨A4, c4, w4, hr4, hb4⟩
set_option maxRecDepth 100000 in
set_option maxHeartbeats 4000000 in
theorem rRemove_any (f : Int) (w : World) (hp : placeB f 0 = true) : Calls Tryd.prog 18 #[.agg rs0, .int .i64 f] w (RWk w) := by
  have hX0 := blk_new w rs0 35
  replace hX0 := hX0.alloc (.cells #[.slice none 0 0, .slice none 0 0, .int .i64 0, .bool false] 35)
  have hz1 : (w.alloc (.cells rs0 35)).heap.size = w.heap.size + 1 := by simp
  have hX1 := blk_new (w.alloc (.cells rs0 35)) #[.slice none 0 0, .slice none 0 0, .int .i64 0, .bool false] 35
  rw [hz1] at hX1
  have hB := ba (b0 w (.cells rs0 35)) (.cells #[.slice none 0 0, .slice none 0 0, .int .i64 0, .bool false] 35)
  have hzz : ((w.alloc (.cells rs0 35)).alloc (.cells #[.slice none 0 0, .slice none 0 0, .int .i64 0, .bool false] 35)).heap.size = w.heap.size + 2 := by simp
  go_enter Tryd.func18, Tryd.ntmps18
  go_upto_region 1 with fail
  generalize ((w.alloc (.cells rs0 35)).alloc (.cells #[.slice none 0 0, .slice none 0 0, .int .i64 0, .bool false] 35)) = W0 at hX0 hX1 hB hzz ⊢
  (try simp only [hz1])
  clear hz1
  generalize hb : w.heap.size = b at hX0 hX1 hB hzz ⊢
  have cP := place_any f 0 W0
  rw [hp] at cP
  refine wp_region_lit ?_
  refine fl_start ?_
  generalize ha : Act.mk _ _ = a0
  have hn : a0.tmps.size = 30 := by rw [← ha]; kernel_rfl
  have h1 : (fr a0 []).eval (.tmp 1) = .int .i64 f := by rw [← ha]; kernel_rfl
  refine fl_know hn rfl h1 ?_
  clear h1
  refine g_mv hn ?_
  refine fl_callx (R := fun v w2 => v = .bool true ∧ W0 = w2) hn rfl rfl rfl (fun hk => call2_is en_spinney_spinneyref09_Place _ _ _ _ _ _ _ _ _ (.int .i64 f) (.int .i64 0) (lk_at hk (i := 7) rfl (fun _ => rfl) rfl) rfl rfl) (cP.mono fun _ _ ⟨he, hw⟩ => ⟨_, he, rfl, hw.symm⟩) ?_
  rintro v w2 ⟨rfl, hw2⟩
  subst hw2
  refine g_nt hn ?_
  refine fl_end ?_
  clear hn cP
  subst ha
  dsimp only [fr, cnd, Act.put, cond_true]
  simp only [List.setIfInBounds_toArray, List.set_cons_zero, List.set_cons_succ]
  go_upto_region 3 with fail
  have la := rs_la hX0 rfl
  have cS := rstep_any W0
  refine wp_region_lit ?_
  refine fl_start ?_
  generalize ha : Act.mk _ _ = a0
  have hn : a0.tmps.size = 30 := by rw [← ha]; kernel_rfl
  have h2 : (fr a0 []).eval (.tmp 2) = .pointer (some ⟨b, 0, none⟩) := by rw [← ha]; kernel_rfl
  refine fl_know hn rfl h2 ?_
  clear h2
  refine g_ld hn ?_
  refine g_c1x en_spinney_spinneyref09_step hn (R := fun v w2 => v = .tuple #[.agg rs0, .bool true] ∧ Below W0.heap.size W0 w2) (cS.mono fun _ _ ⟨v, he, hv, hb⟩ => ⟨_, he, hv, hb⟩) ?_
  rintro v w2 ⟨rfl, hb2⟩
  refine g_mv hn ?_
  refine g_ex hn ?_
  refine g_ex hn ?_
  refine g_str (hX0.keep hb2) ?_ (h1 := by simp [Value.oneCell'])
  intro w3 ho3 hX3
  refine g_as hn ?_
  refine fl_end ?_
  clear hn la cS
  subst ha
  dsimp only [fr, cnd, Act.put, cond_true]
  simp only [List.setIfInBounds_toArray, List.set_cons_zero, List.set_cons_succ]
  have hR3 := (hX1.keep hb2).only ho3 (by omega)
  have hB3 : Below b w w3 := (hB.trans (hb2.mono (by omega))).trans (ho3.below (Nat.le_refl _))
  have hs3 : b + 2 ≤ w3.heap.size := by have := ho3.size; have := hb2.size; omega
  clear hX0 hX1 hB hb2 ho3 hzz
  go_upto_region 6 with fail
  have k0 := rs_a0 w3 b
  have q0 := rs_lA (W := w3) (g := b) (j := 0) (hX3.cell 0)
  have c0 := rwithout_nil f false w3
  go_upto_region 6 with fail
  refine wp_region_lit ?_
  refine fl_start ?_
  generalize ha : Act.mk _ _ = a0
  have hn : a0.tmps.size = 30 := by rw [← ha]; kernel_rfl
  have h1 : (fr a0 []).eval (.tmp 1) = .int .i64 f := by rw [← ha]; kernel_rfl
  refine fl_know hn rfl h1 ?_
  clear h1
  have h2 : (fr a0 [(1, true, .int .i64 f)]).eval (.tmp 2) = .pointer (some ⟨b, 0, none⟩) := by rw [← ha]; kernel_rfl
  refine fl_know hn rfl h2 ?_
  clear h2
  refine g_fd hn ?_
  refine g_ld hn ?_
  refine g_mv hn ?_
  refine fl_callx (R := fun v w6 => v = .slice none 0 0 ∧ w3 = w6) hn rfl rfl rfl (fun hk => call3_is en_spinney_spinneyref09_without _ _ _ _ _ _ _ _ _ _ (.slice none 0 0) (.int .i64 f) (.bool false) (lk_at hk (i := 20) rfl (fun _ => rfl) rfl) (lk_at hk (i := 21) rfl (fun _ => rfl) rfl) rfl rfl) (c0.mono fun _ _ ⟨he, hw⟩ => ⟨_, he, rfl, hw.symm⟩) ?_
  rintro v w6 ⟨rfl, hw6⟩
  subst hw6
  refine g_fd hn ?_
  refine g_stt hX3 (hr := rs_stA (j := 0) hX3 (by simp) none 0 0) ?_
  intro w4 ho hX4
  refine fl_end ?_
  clear hn k0 q0 c0
  subst ha
  dsimp only [fr, cnd, Act.put, cond_true]
  simp only [List.setIfInBounds_toArray, List.set_cons_zero, List.set_cons_succ]
  have hR4 := hR3.only ho (by omega)
  have hB4 := hB3.trans (ho.below (Nat.le_refl _))
  have hs4 : b + 2 ≤ w4.heap.size := by have := ho.size; omega
  clear ho hX3 hR3 hB3
  replace hX4 : Blk w4 b rs0 35 := hX4
  have k1 := rs_a1 w4 b
  have q1 := rs_lA (W := w4) (g := b) (j := 1) (hX4.cell 1)
  have c1 := rwithout_nil f false w4
  go_upto_region 7 with fail
  refine wp_region_lit ?_
  refine fl_start ?_
  generalize ha : Act.mk _ _ = a0
  have hn : a0.tmps.size = 30 := by rw [← ha]; kernel_rfl
  have h1 : (fr a0 []).eval (.tmp 1) = .int .i64 f := by rw [← ha]; kernel_rfl
  refine fl_know hn rfl h1 ?_
  clear h1
  have h2 : (fr a0 [(1, true, .int .i64 f)]).eval (.tmp 2) = .pointer (some ⟨b, 0, none⟩) := by rw [← ha]; kernel_rfl
  refine fl_know hn rfl h2 ?_
  clear h2
  refine g_fd hn ?_
  refine g_ld hn ?_
  refine g_mv hn ?_
  refine fl_callx (R := fun v w6 => v = .slice none 0 0 ∧ w4 = w6) hn rfl rfl rfl (fun hk => call3_is en_spinney_spinneyref09_without _ _ _ _ _ _ _ _ _ _ (.slice none 0 0) (.int .i64 f) (.bool false) (lk_at hk (i := 25) rfl (fun _ => rfl) rfl) (lk_at hk (i := 26) rfl (fun _ => rfl) rfl) rfl rfl) (c1.mono fun _ _ ⟨he, hw⟩ => ⟨_, he, rfl, hw.symm⟩) ?_
  rintro v w6 ⟨rfl, hw6⟩
  subst hw6
  refine g_fd hn ?_
  refine g_stt hX4 (hr := rs_stA (j := 1) hX4 (by simp) none 0 0) ?_
  intro w5 ho hX5
  refine fl_end ?_
  clear hn k1 q1 c1
  subst ha
  dsimp only [fr, cnd, Act.put, cond_true]
  simp only [List.setIfInBounds_toArray, List.set_cons_zero, List.set_cons_succ]
  have hR8 := hR4.only ho (by omega)
  have hB8 := hB4.trans (ho.below (Nat.le_refl _))
  clear ho hX4 hR4 hB4
  replace hX5 : Blk w5 b rs0 35 := hX5
  have la := rs_la hX5 rfl
  go_upto_region 8 with fail
  refine wp_region_lit ?_
  refine fl_start ?_
  generalize ha : Act.mk _ _ = a0
  have hn : a0.tmps.size = 30 := by rw [← ha]; kernel_rfl
  have h2 : (fr a0 []).eval (.tmp 2) = .pointer (some ⟨b, 0, none⟩) := by rw [← ha]; kernel_rfl
  refine fl_know hn rfl h2 ?_
  clear h2
  have h4 : (fr a0 [(2, true, .pointer (some ⟨b, 0, none⟩))]).eval (.tmp 4) = .pointer (some ⟨b + 1, 0, none⟩) := by rw [← ha]; kernel_rfl
  refine fl_know hn rfl h4 ?_
  clear h4
  refine g_ld hn ?_
  refine g_str hR8 ?_ (h1 := by simp [Value.oneCell'])
  intro w9 ho9 hR9
  refine g_ac hn ?_
  refine fl_end ?_
  clear hn la
  subst ha
  dsimp only [fr, cnd, Act.put, cond_true]
  simp only [List.setIfInBounds_toArray, List.set_cons_zero, List.set_cons_succ]
  have hB9 := hB8.trans (ho9.below (by omega))
  go_wp2_with fail
  refine bodyPost_ret (results_ct_row Tryd.results18 _ _ (b + 1) 35 (rsS none 0 0 none 0 0) (0, 0) _ (by rfl) hR9 Tryd.underlying35 (by rfl) (by kernel_rfl)) rfl ?_
  exact ⟨_, _, _, _, _, _, rfl, by first | exact hB9 | (rw [hb]; exact hB9)⟩
set_option maxRecDepth 100000 in
set_option maxHeartbeats 4000000 in
theorem rFlush_any (f : Int) (w : World) (hp : placeB f 0 = true) : Calls Tryd.prog 16 #[.agg rs0, .int .i64 f] w (RWk w) := by
  have hX0 := blk_new w rs0 35
  replace hX0 := hX0.alloc (.cells #[.slice none 0 0, .slice none 0 0, .int .i64 0, .bool false] 35)
  have hz1 : (w.alloc (.cells rs0 35)).heap.size = w.heap.size + 1 := by simp
  have hX1 := blk_new (w.alloc (.cells rs0 35)) #[.slice none 0 0, .slice none 0 0, .int .i64 0, .bool false] 35
  rw [hz1] at hX1
  have hB := ba (b0 w (.cells rs0 35)) (.cells #[.slice none 0 0, .slice none 0 0, .int .i64 0, .bool false] 35)
  have hzz : ((w.alloc (.cells rs0 35)).alloc (.cells #[.slice none 0 0, .slice none 0 0, .int .i64 0, .bool false] 35)).heap.size = w.heap.size + 2 := by simp
  go_enter Tryd.func16, Tryd.ntmps16
  go_upto_region 1 with fail
  generalize ((w.alloc (.cells rs0 35)).alloc (.cells #[.slice none 0 0, .slice none 0 0, .int .i64 0, .bool false] 35)) = W0 at hX0 hX1 hB hzz ⊢
  (try simp only [hz1])
  clear hz1
  generalize hb : w.heap.size = b at hX0 hX1 hB hzz ⊢
  have cP := place_any f 0 W0
  rw [hp] at cP
  refine wp_region_lit ?_
  refine fl_start ?_
  generalize ha : Act.mk _ _ = a0
  have hn : a0.tmps.size = 35 := by rw [← ha]; kernel_rfl
  have h1 : (fr a0 []).eval (.tmp 1) = .int .i64 f := by rw [← ha]; kernel_rfl
  refine fl_know hn rfl h1 ?_
  clear h1
  refine g_mv hn ?_
  refine fl_callx (R := fun v w2 => v = .bool true ∧ W0 = w2) hn rfl rfl rfl (fun hk => call2_is en_spinney_spinneyref09_Place _ _ _ _ _ _ _ _ _ (.int .i64 f) (.int .i64 0) (lk_at hk (i := 7) rfl (fun _ => rfl) rfl) rfl rfl) (cP.mono fun _ _ ⟨he, hw⟩ => ⟨_, he, rfl, hw.symm⟩) ?_
  rintro v w2 ⟨rfl, hw2⟩
  subst hw2
  refine g_nt hn ?_
  refine fl_end ?_
  clear hn cP
  subst ha
  dsimp only [fr, cnd, Act.put, cond_true]
  simp only [List.setIfInBounds_toArray, List.set_cons_zero, List.set_cons_succ]
  go_upto_region 3 with fail
  have la := rs_la hX0 rfl
  have cS := rstep_any W0
  refine wp_region_lit ?_
  refine fl_start ?_
  generalize ha : Act.mk _ _ = a0
  have hn : a0.tmps.size = 35 := by rw [← ha]; kernel_rfl
  have h2 : (fr a0 []).eval (.tmp 2) = .pointer (some ⟨b, 0, none⟩) := by rw [← ha]; kernel_rfl
  refine fl_know hn rfl h2 ?_
  clear h2
  refine g_ld hn ?_
  refine g_c1x en_spinney_spinneyref09_step hn (R := fun v w2 => v = .tuple #[.agg rs0, .bool true] ∧ Below W0.heap.size W0 w2) (cS.mono fun _ _ ⟨v, he, hv, hb⟩ => ⟨_, he, hv, hb⟩) ?_
  rintro v w2 ⟨rfl, hb2⟩
  refine g_mv hn ?_
  refine g_ex hn ?_
  refine g_ex hn ?_
  refine g_str (hX0.keep hb2) ?_ (h1 := by simp [Value.oneCell'])
  intro w3 ho3 hX3
  refine g_as hn ?_
  refine fl_end ?_
  clear hn la cS
  subst ha
  dsimp only [fr, cnd, Act.put, cond_true]
  simp only [List.setIfInBounds_toArray, List.set_cons_zero, List.set_cons_succ]
  have hR3 := (hX1.keep hb2).only ho3 (by omega)
  have hB3 : Below b w w3 := (hB.trans (hb2.mono (by omega))).trans (ho3.below (Nat.le_refl _))
  have hs3 : b + 2 ≤ w3.heap.size := by have := ho3.size; have := hb2.size; omega
  clear hX0 hX1 hB hb2 ho3 hzz
  go_upto_region 6 with fail
  have k0 : ∀ W : World, (fun W => ∃ (A : Option Addr) (n c : Nat), Blk W b (rsS A n c none 0 0) 35) W → _ := fun W _ => rs_a0 W b
  have k1 : ∀ W : World, (fun W => ∃ (A : Option Addr) (n c : Nat), Blk W b (rsS A n c none 0 0) 35) W → _ := fun W _ => rs_a1 W b
  have l1 : ∀ W : World, (fun W => ∃ (A : Option Addr) (n c : Nat), Blk W b (rsS A n c none 0 0) 35) W → (Instr.loadAt 33 (.pointer (some ⟨b, 1, none⟩))).run Tryd.prog W = .ok (.slice none 0 0) W := fun W ⟨A, n, c, hW⟩ => rs_lA (W := W) (g := b) (j := 1) (hW.cell 1)
  refine fh_start (S := (fun W => ∃ (A : Option Addr) (n c : Nat), Blk W b (rsS A n c none 0 0) 35)) (by kernel_rfl) (⟨none, 0, 0, hX3⟩) (fun hS => ?_)
  generalize ha : Act.mk _ _ = a0
  have hn : a0.tmps.size = 35 := by rw [← ha]; kernel_rfl
  have h1 : (fr a0 []).eval (.tmp 1) = .int .i64 f := by rw [← ha]; kernel_rfl
  refine fh_know hn rfl h1 ?_
  clear h1
  have h2 : (fr a0 [(1, true, .int .i64 f)]).eval (.tmp 2) = .pointer (some ⟨b, 0, none⟩) := by rw [← ha]; kernel_rfl
  refine fh_know hn rfl h2 ?_
  clear h2
  refine h_fd 1 hn hS ?_
  refine h_fd 4 hn hS ?_
  refine h_ld 5 hn hS ?_
  refine h_mv 6 hn hS ?_
  refine fh_two (i := 0) (j := 2) (by kernel_rfl) ?_ ?_
  · skip
    have ba5 := b0 w3.drew (.cells #[] 70)
    have hE1 := own0Rw w3.drew w3.heap.size (((Below.refl w3.heap.size w3).drew)).size
    have hbb2 : Below w3.heap.size w3 (w3.drew.alloc (.cells #[] 70)) := (((Below.refl w3.heap.size w3).drew)).trans (ba5.mono (((Below.refl w3.heap.size w3).drew)).size)
    refine one_valx (d := 19) hn rfl (fun hk => x_bsW0) ⟨none, 0, 0, hX3.keep hbb2⟩ ?_ rfl rfl rfl
    generalize w3.drew.heap.size = g4 at hE1 ⊢
    generalize w3.drew.alloc (.cells #[] 70) = v3 at hE1 hbb2 ba5  ⊢
    refine fh_valx 2 (d := 21) (v := .slice none 0 0) (w2 := v3) hn rfl (fun hk => x_ld (lk_at hk (i := 20) rfl (fun _ => rfl) rfl) (rs_lA (W := v3) (g := b) (j := 0) ((hX3.keep (hbb2)).cell 0))) ⟨none, 0, 0, hX3.keep hbb2⟩ ?_ rfl rfl (by kernel_rfl) rfl
    refine fh_valx 3 (d := 22) (w2 := v3) (v := .slice (some ⟨g4, 0, none⟩) 0 0) hn rfl (fun hk => x_ap (lk_at hk (i := 19) rfl (fun _ => rfl) rfl) (lk_at hk (i := 21) rfl (fun _ => rfl) rfl) (run_apNilW v3 ⟨g4, 0, none⟩ 0 0 0 _ (Nat.le_refl _))) ⟨none, 0, 0, hX3.keep hbb2⟩ ?_ rfl rfl (by kernel_rfl) rfl
    refine fh_callx 7 (d := 26) (R := fun v w6 => v = .slice none 0 0 ∧ v3 = w6) hn rfl (fun hk => call3_is en_spinney_spinneyref09_without _ _ _ _ _ _ _ _ _ _ (.slice none 0 0) (.int .i64 f) (.bool true) (lk_at hk (i := 24) rfl (fun _ => rfl) rfl) (lk_at hk (i := 25) rfl (fun _ => rfl) rfl) rfl rfl) ((rwithout_nil f true v3).mono fun _ _ ⟨he, hw⟩ => ⟨_, he, rfl, hw.symm⟩) ?_ rfl rfl (by kernel_rfl) rfl
    rintro v w6 ⟨rfl, hw6⟩
    subst hw6
    refine ⟨⟨none, 0, 0, hX3.keep hbb2⟩, ?_⟩
    refine fh_valx 8 (d := 27) (w2 := v3) (v := .slice (some ⟨g4, 0, none⟩) 0 0) hn rfl (fun hk => x_ap (lk_at hk (i := 22) rfl (fun _ => rfl) rfl) (lk_at hk (i := 26) rfl (fun _ => rfl) rfl) (run_apNilW v3 ⟨g4, 0, none⟩ 0 0 0 _ (Nat.le_refl _))) ⟨none, 0, 0, hX3.keep hbb2⟩ ?_ rfl rfl (by kernel_rfl) rfl
    refine h_fd 9 hn ⟨none, 0, 0, hX3.keep hbb2⟩ ?_
    have hXE := hX3.keep hbb2
    have ho4 := only_cell v3 b 0 (.slice (some ⟨g4, 0, none⟩) 0 0)
    have hX4 : Blk (v3.setCell ⟨b, 0, none⟩ (.slice (some ⟨g4, 0, none⟩) 0 0)) b (rsS (some ⟨g4, 0, none⟩) 0 0 none 0 0) 35 := hXE.set 0 (.slice (some ⟨g4, 0, none⟩) 0 0)
    refine h_st 10 (rs_stA (j := 0) hXE (by simp) (some ⟨g4, 0, none⟩) 0 0) ⟨_, _, _, hX4⟩ ?_
    refine fh_end (by kernel_rfl) ?_
    clear hn k0 k1 l1
    subst ha
    dsimp only [fr, cnd, Act.put, cond_true]
    simp only [List.setIfInBounds_toArray, List.set_cons_zero, List.set_cons_succ]
    have hR4 := (hR3.keep hbb2).only ho4 (by omega)
    have hB4 : Below b w (v3.setCell ⟨b, 0, none⟩ (.slice (some ⟨g4, 0, none⟩) 0 0)) := (hB3.trans (hbb2.mono (by omega))).trans (ho4.below (Nat.le_refl _))
    have hs4 : b + 2 ≤ (v3.setCell ⟨b, 0, none⟩ (.slice (some ⟨g4, 0, none⟩) 0 0)).heap.size := by have := ho4.size; have := hbb2.size; omega
    clear hE1 hbb2 hXE ho4 hX3 hR3 hB3 hS
    generalize v3.setCell ⟨b, 0, none⟩ (.slice (some ⟨g4, 0, none⟩) 0 0) = w4 at hX4 hR4 hB4 hs4 ⊢
    go_upto_region 7 with fail
    have k1 := rs_a1 w4 b
    have q1 := rs_lA (W := w4) (g := b) (j := 1) (hX4.cell 1)
    have c1 := rwithout_nil f false w4
    refine wp_region_lit ?_
    refine fl_start ?_
    generalize ha : Act.mk _ _ = a0
    have hn : a0.tmps.size = 35 := by rw [← ha]; kernel_rfl
    have h1 : (fr a0 []).eval (.tmp 1) = .int .i64 f := by rw [← ha]; kernel_rfl
    refine fl_know hn rfl h1 ?_
    clear h1
    have h2 : (fr a0 [(1, true, .int .i64 f)]).eval (.tmp 2) = .pointer (some ⟨b, 0, none⟩) := by rw [← ha]; kernel_rfl
    refine fl_know hn rfl h2 ?_
    clear h2
    refine g_fd hn ?_
    refine g_ld hn ?_
    refine g_mv hn ?_
    refine fl_callx (R := fun v w6 => v = .slice none 0 0 ∧ w4 = w6) hn rfl rfl rfl (fun hk => call3_is en_spinney_spinneyref09_without _ _ _ _ _ _ _ _ _ _ (.slice none 0 0) (.int .i64 f) (.bool false) (lk_at hk (i := 30) rfl (fun _ => rfl) rfl) (lk_at hk (i := 31) rfl (fun _ => rfl) rfl) rfl rfl) (c1.mono fun _ _ ⟨he, hw⟩ => ⟨_, he, rfl, hw.symm⟩) ?_
    rintro v w6 ⟨rfl, hw6⟩
    subst hw6
    refine g_fd hn ?_
    refine g_stt hX4 (hr := rs_stA (j := 1) hX4 (by simp) none 0 0) ?_
    intro w5 ho hX5
    refine fl_end ?_
    clear hn k1 q1 c1
    subst ha
    dsimp only [fr, cnd, Act.put, cond_true]
    simp only [List.setIfInBounds_toArray, List.set_cons_zero, List.set_cons_succ]
    have hR8 := hR4.only ho (by omega)
    have hB8 := hB4.trans (ho.below (Nat.le_refl _))
    clear ho hX4 hR4 hB4
    replace hX5 : Blk w5 b (rsS (some ⟨g4, 0, none⟩) 0 0 none 0 0) 35 := hX5
    have la := rs_la hX5 rfl
    go_upto_region 8 with fail
    refine wp_region_lit ?_
    refine fl_start ?_
    generalize ha : Act.mk _ _ = a0
    have hn : a0.tmps.size = 35 := by rw [← ha]; kernel_rfl
    have h2 : (fr a0 []).eval (.tmp 2) = .pointer (some ⟨b, 0, none⟩) := by rw [← ha]; kernel_rfl
    refine fl_know hn rfl h2 ?_
    clear h2
    have h4 : (fr a0 [(2, true, .pointer (some ⟨b, 0, none⟩))]).eval (.tmp 4) = .pointer (some ⟨b + 1, 0, none⟩) := by rw [← ha]; kernel_rfl
    refine fl_know hn rfl h4 ?_
    clear h4
    refine g_ld hn ?_
    refine g_str hR8 ?_ (h1 := by simp [Value.oneCell'])
    intro w9 ho9 hR9
    refine g_ac hn ?_
    refine fl_end ?_
    clear hn la
    subst ha
    dsimp only [fr, cnd, Act.put, cond_true]
    simp only [List.setIfInBounds_toArray, List.set_cons_zero, List.set_cons_succ]
    have hB9 := hB8.trans (ho9.below (by omega))
    go_wp2_with fail
    refine bodyPost_ret (results_ct_row Tryd.results16 _ _ (b + 1) 35 (rsS (some ⟨g4, 0, none⟩) 0 0 none 0 0) (0, 0) _ (by rfl) hR9 Tryd.underlying35 (by rfl) (by kernel_rfl)) rfl ?_
    exact ⟨_, _, _, _, _, _, rfl, by first | exact hB9 | (rw [hb]; exact hB9)⟩
  · skip
    refine one_valx (d := 21) (v := .slice none 0 0) (w2 := w3.drew) hn rfl (fun hk => x_ld (lk_at hk (i := 20) rfl (fun _ => rfl) rfl) (rs_lA (W := w3.drew) (g := b) (j := 0) ((hX3.keep (((Below.refl w3.heap.size w3).drew))).cell 0))) ⟨none, 0, 0, hX3.keep ((Below.refl w3.heap.size w3).drew)⟩ ?_ rfl rfl rfl
    have ba10 := b0 w3.drew (.cells #[] 70)
    have hE6 := own0Rw w3.drew w3.heap.size (((Below.refl w3.heap.size w3).drew)).size
    have hbb7 : Below w3.heap.size w3 (w3.drew.alloc (.cells #[] 70)) := (((Below.refl w3.heap.size w3).drew)).trans (ba10.mono (((Below.refl w3.heap.size w3).drew)).size)
    refine fh_valx 0 (d := 19) hn rfl (fun hk => x_bsW0) ⟨none, 0, 0, hX3.keep hbb7⟩ ?_ rfl rfl (by kernel_rfl) rfl
    generalize w3.drew.heap.size = g9 at hE6 ⊢
    generalize w3.drew.alloc (.cells #[] 70) = v8 at hE6 hbb7 ba10  ⊢
    refine fh_valx 3 (d := 22) (w2 := v8) (v := .slice (some ⟨g9, 0, none⟩) 0 0) hn rfl (fun hk => x_ap (lk_at hk (i := 19) rfl (fun _ => rfl) rfl) (lk_at hk (i := 21) rfl (fun _ => rfl) rfl) (run_apNilW v8 ⟨g9, 0, none⟩ 0 0 0 _ (Nat.le_refl _))) ⟨none, 0, 0, hX3.keep hbb7⟩ ?_ rfl rfl (by kernel_rfl) rfl
    refine fh_callx 7 (d := 26) (R := fun v w6 => v = .slice none 0 0 ∧ v8 = w6) hn rfl (fun hk => call3_is en_spinney_spinneyref09_without _ _ _ _ _ _ _ _ _ _ (.slice none 0 0) (.int .i64 f) (.bool true) (lk_at hk (i := 24) rfl (fun _ => rfl) rfl) (lk_at hk (i := 25) rfl (fun _ => rfl) rfl) rfl rfl) ((rwithout_nil f true v8).mono fun _ _ ⟨he, hw⟩ => ⟨_, he, rfl, hw.symm⟩) ?_ rfl rfl (by kernel_rfl) rfl
    rintro v w6 ⟨rfl, hw6⟩
    subst hw6
    refine ⟨⟨none, 0, 0, hX3.keep hbb7⟩, ?_⟩
    refine fh_valx 8 (d := 27) (w2 := v8) (v := .slice (some ⟨g9, 0, none⟩) 0 0) hn rfl (fun hk => x_ap (lk_at hk (i := 22) rfl (fun _ => rfl) rfl) (lk_at hk (i := 26) rfl (fun _ => rfl) rfl) (run_apNilW v8 ⟨g9, 0, none⟩ 0 0 0 _ (Nat.le_refl _))) ⟨none, 0, 0, hX3.keep hbb7⟩ ?_ rfl rfl (by kernel_rfl) rfl
    refine h_fd 9 hn ⟨none, 0, 0, hX3.keep hbb7⟩ ?_
    have hXE := hX3.keep hbb7
    have ho4 := only_cell v8 b 0 (.slice (some ⟨g9, 0, none⟩) 0 0)
    have hX4 : Blk (v8.setCell ⟨b, 0, none⟩ (.slice (some ⟨g9, 0, none⟩) 0 0)) b (rsS (some ⟨g9, 0, none⟩) 0 0 none 0 0) 35 := hXE.set 0 (.slice (some ⟨g9, 0, none⟩) 0 0)
    refine h_st 10 (rs_stA (j := 0) hXE (by simp) (some ⟨g9, 0, none⟩) 0 0) ⟨_, _, _, hX4⟩ ?_
    refine fh_end (by kernel_rfl) ?_
    clear hn k0 k1 l1
    subst ha
    dsimp only [fr, cnd, Act.put, cond_true]
    simp only [List.setIfInBounds_toArray, List.set_cons_zero, List.set_cons_succ]
    have hR4 := (hR3.keep hbb7).only ho4 (by omega)
    have hB4 : Below b w (v8.setCell ⟨b, 0, none⟩ (.slice (some ⟨g9, 0, none⟩) 0 0)) := (hB3.trans (hbb7.mono (by omega))).trans (ho4.below (Nat.le_refl _))
    have hs4 : b + 2 ≤ (v8.setCell ⟨b, 0, none⟩ (.slice (some ⟨g9, 0, none⟩) 0 0)).heap.size := by have := ho4.size; have := hbb7.size; omega
    clear hE6 hbb7 hXE ho4 hX3 hR3 hB3 hS
    generalize v8.setCell ⟨b, 0, none⟩ (.slice (some ⟨g9, 0, none⟩) 0 0) = w4 at hX4 hR4 hB4 hs4 ⊢
    go_upto_region 7 with fail
    have k1 := rs_a1 w4 b
    have q1 := rs_lA (W := w4) (g := b) (j := 1) (hX4.cell 1)
    have c1 := rwithout_nil f false w4
    refine wp_region_lit ?_
    refine fl_start ?_
    generalize ha : Act.mk _ _ = a0
    have hn : a0.tmps.size = 35 := by rw [← ha]; kernel_rfl
    have h1 : (fr a0 []).eval (.tmp 1) = .int .i64 f := by rw [← ha]; kernel_rfl
    refine fl_know hn rfl h1 ?_
    clear h1
    have h2 : (fr a0 [(1, true, .int .i64 f)]).eval (.tmp 2) = .pointer (some ⟨b, 0, none⟩) := by rw [← ha]; kernel_rfl
    refine fl_know hn rfl h2 ?_
    clear h2
    refine g_fd hn ?_
    refine g_ld hn ?_
    refine g_mv hn ?_
    refine fl_callx (R := fun v w6 => v = .slice none 0 0 ∧ w4 = w6) hn rfl rfl rfl (fun hk => call3_is en_spinney_spinneyref09_without _ _ _ _ _ _ _ _ _ _ (.slice none 0 0) (.int .i64 f) (.bool false) (lk_at hk (i := 30) rfl (fun _ => rfl) rfl) (lk_at hk (i := 31) rfl (fun _ => rfl) rfl) rfl rfl) (c1.mono fun _ _ ⟨he, hw⟩ => ⟨_, he, rfl, hw.symm⟩) ?_
    rintro v w6 ⟨rfl, hw6⟩
    subst hw6
    refine g_fd hn ?_
    refine g_stt hX4 (hr := rs_stA (j := 1) hX4 (by simp) none 0 0) ?_
    intro w5 ho hX5
    refine fl_end ?_
    clear hn k1 q1 c1
    subst ha
    dsimp only [fr, cnd, Act.put, cond_true]
    simp only [List.setIfInBounds_toArray, List.set_cons_zero, List.set_cons_succ]
    have hR8 := hR4.only ho (by omega)
    have hB8 := hB4.trans (ho.below (Nat.le_refl _))
    clear ho hX4 hR4 hB4
    replace hX5 : Blk w5 b (rsS (some ⟨g9, 0, none⟩) 0 0 none 0 0) 35 := hX5
    have la := rs_la hX5 rfl
    go_upto_region 8 with fail
    refine wp_region_lit ?_
    refine fl_start ?_
    generalize ha : Act.mk _ _ = a0
    have hn : a0.tmps.size = 35 := by rw [← ha]; kernel_rfl
    have h2 : (fr a0 []).eval (.tmp 2) = .pointer (some ⟨b, 0, none⟩) := by rw [← ha]; kernel_rfl
    refine fl_know hn rfl h2 ?_
    clear h2
    have h4 : (fr a0 [(2, true, .pointer (some ⟨b, 0, none⟩))]).eval (.tmp 4) = .pointer (some ⟨b + 1, 0, none⟩) := by rw [← ha]; kernel_rfl
    refine fl_know hn rfl h4 ?_
    clear h4
    refine g_ld hn ?_
    refine g_str hR8 ?_ (h1 := by simp [Value.oneCell'])
    intro w9 ho9 hR9
    refine g_ac hn ?_
    refine fl_end ?_
    clear hn la
    subst ha
    dsimp only [fr, cnd, Act.put, cond_true]
    simp only [List.setIfInBounds_toArray, List.set_cons_zero, List.set_cons_succ]
    have hB9 := hB8.trans (ho9.below (by omega))
    go_wp2_with fail
    refine bodyPost_ret (results_ct_row Tryd.results16 _ _ (b + 1) 35 (rsS (some ⟨g9, 0, none⟩) 0 0 none 0 0) (0, 0) _ (by rfl) hR9 Tryd.underlying35 (by rfl) (by kernel_rfl)) rfl ?_
    exact ⟨_, _, _, _, _, _, rfl, by first | exact hB9 | (rw [hb]; exact hB9)⟩
set_option maxRecDepth 100000 in
set_option maxHeartbeats 4000000 in
theorem rPut_any {C : Nat} (f bb0 : Int) (A : Option Addr) (n c : Nat) (l : List UInt8) (w : World) (hp : placeB f bb0 = true) (hn0 : l.length = n) (hn64 : n ≤ 64) (hr : RdB C w A l) (hC : C ≤ w.heap.size) : Calls Tryd.prog 15 #[.agg rs0, .int .i64 f, .int .i64 bb0, .slice A n c] w (RWk w) := by
  have hX0 := blk_new w rs0 35
  replace hX0 := hX0.alloc (.cells #[.slice none 0 0, .slice none 0 0, .int .i64 0, .bool false] 35)
  have hz1 : (w.alloc (.cells rs0 35)).heap.size = w.heap.size + 1 := by simp
  have hX1 := blk_new (w.alloc (.cells rs0 35)) #[.slice none 0 0, .slice none 0 0, .int .i64 0, .bool false] 35
  rw [hz1] at hX1
  have hB := ba (b0 w (.cells rs0 35)) (.cells #[.slice none 0 0, .slice none 0 0, .int .i64 0, .bool false] 35)
  have hzz : ((w.alloc (.cells rs0 35)).alloc (.cells #[.slice none 0 0, .slice none 0 0, .int .i64 0, .bool false] 35)).heap.size = w.heap.size + 2 := by simp
  have HR := Lib.hid (fun (W : World) (hb : Below w.heap.size w W) => hr.keep hb hC)
  have HN := Lib.hid hn0
  clear hr hn0
  go_enter Tryd.func15, Tryd.ntmps15
  go_upto_region 1 with fail
  generalize ((w.alloc (.cells rs0 35)).alloc (.cells #[.slice none 0 0, .slice none 0 0, .int .i64 0, .bool false] 35)) = W0 at hX0 hX1 hB hzz ⊢
  (try simp only [hz1])
  clear hz1
  generalize hb : w.heap.size = b at hX0 hX1 hB hzz ⊢
  have cP := place_any f bb0 W0
  rw [hp] at cP
  refine wp_region_lit ?_
  refine fl_start ?_
  generalize ha : Act.mk _ _ = a0
  have hn : a0.tmps.size = 56 := by rw [← ha]; kernel_rfl
  have h1 : (fr a0 []).eval (.tmp 1) = .int .i64 f := by rw [← ha]; kernel_rfl
  refine fl_know hn rfl h1 ?_
  clear h1
  have h2 : (fr a0 [(1, true, .int .i64 f)]).eval (.tmp 2) = .int .i64 bb0 := by rw [← ha]; kernel_rfl
  refine fl_know hn rfl h2 ?_
  clear h2
  have h3 : (fr a0 [(2, true, .int .i64 bb0), (1, true, .int .i64 f)]).eval (.tmp 3) = .slice A n c := by rw [← ha]; kernel_rfl
  refine fl_know hn rfl h3 ?_
  clear h3
  refine g_mv hn ?_
  refine g_mv hn ?_
  refine g_c2x en_spinney_spinneyref09_Place hn (R := fun v w2 => v = .bool true ∧ W0 = w2) (cP.mono fun _ _ ⟨he, hw⟩ => ⟨_, he, rfl, hw.symm⟩) ?_
  rintro v w2 ⟨rfl, hw2⟩
  subst hw2
  refine g_nt hn ?_
  refine g_mv hn ?_
  refine g_mv hn ?_
  refine g_ln hn ?_
  refine g_gtr hn ?_
  refine g_or hn ?_
  refine fl_end ?_
  clear hn cP
  subst ha
  dsimp only [fr, cnd, Act.put, cond_true]
  simp only [List.setIfInBounds_toArray, List.set_cons_zero, List.set_cons_succ]
  have i64' : ¬ (64 : Int) < (n : Int) := by omega
  simp only [show decide ((64 : Int) < (n : Int)) = false from decide_eq_false i64', Bool.not_true, Bool.or_false]
  go_upto_region 3 with fail
  have la := rs_la hX0 rfl
  have cS := rstep_any W0
  refine wp_region_lit ?_
  refine fl_start ?_
  generalize ha : Act.mk _ _ = a0
  have hn : a0.tmps.size = 56 := by rw [← ha]; kernel_rfl
  have h4 : (fr a0 []).eval (.tmp 4) = .pointer (some ⟨b, 0, none⟩) := by rw [← ha]; kernel_rfl
  refine fl_know hn rfl h4 ?_
  clear h4
  refine g_ld hn ?_
  refine g_c1x en_spinney_spinneyref09_step hn (R := fun v w2 => v = .tuple #[.agg rs0, .bool true] ∧ Below W0.heap.size W0 w2) (cS.mono fun _ _ ⟨v, he, hv, hb⟩ => ⟨_, he, hv, hb⟩) ?_
  rintro v w2 ⟨rfl, hb2⟩
  refine g_mv hn ?_
  refine g_ex hn ?_
  refine g_ex hn ?_
  refine g_str (hX0.keep hb2) ?_ (h1 := by simp [Value.oneCell'])
  intro w3 ho3 hX3
  refine g_as hn ?_
  refine fl_end ?_
  clear hn la cS
  subst ha
  dsimp only [fr, cnd, Act.put, cond_true]
  simp only [List.setIfInBounds_toArray, List.set_cons_zero, List.set_cons_succ]
  have hR3 := (hX1.keep hb2).only ho3 (by omega)
  have hB3 : Below b w w3 := (hB.trans (hb2.mono (by omega))).trans (ho3.below (Nat.le_refl _))
  have hs3 : b + 2 ≤ w3.heap.size := by have := ho3.size; have := hb2.size; omega
  clear hX0 hX1 hB hb2 ho3 hzz
  go_upto_region 6 with fail
  have bd := bdRw w3 f bb0
  refine wp_region_lit ?_
  refine fl_start ?_
  generalize ha : Act.mk _ _ = a0
  have hn : a0.tmps.size = 56 := by rw [← ha]; kernel_rfl
  have h1 : (fr a0 []).eval (.tmp 1) = .int .i64 f := by rw [← ha]; kernel_rfl
  refine fl_know hn rfl h1 ?_
  clear h1
  have h2 : (fr a0 [(1, true, .int .i64 f)]).eval (.tmp 2) = .int .i64 bb0 := by rw [← ha]; kernel_rfl
  refine fl_know hn rfl h2 ?_
  clear h2
  refine g_mv hn ?_
  refine g_mv hn ?_
  refine g_bd hn ?_ bd (hp := fun hk hg => by
    have e1 := lk_at hk (i := 31) rfl (fun _ => rfl) hg
    have e2 := lk_at hk (i := 32) rfl (fun _ => rfl) hg
    simp only [List.map_toArray, List.map_cons, List.map_nil]
    rw [e1, e2])
  refine g_w (v := .pointer (some ⟨w3.heap.size, 0, none⟩)) (w2 := w3.alloc (.cells (⟨0, 0, z64⟩ : Pw).cells 70)) hn (fun _ => x_alRw) ?_
  have hX4 := blk_new w3 (⟨0, 0, z64⟩ : Pw).cells 70
  have hb4 := b0 w3 (.cells (⟨0, 0, z64⟩ : Pw).cells 70)
  generalize w3.alloc (.cells (⟨0, 0, z64⟩ : Pw).cells 70) = w4 at hX4 hb4 ⊢
  obtain ⟨wq, hwq⟩ : ∃ wq, wq = w3.heap.size := ⟨_, rfl⟩
  rw [← hwq] at hX4 ⊢
  refine g_str hX4 ?_ (hs := by rw [pw_size rfl, pw_size rfl]) (hi := by rw [pw_size rfl]; kernel_rfl) (h1 := pw_one _)
  intro w5 ho5 hX5
  refine fl_end ?_
  clear hn bd
  subst ha
  dsimp only [fr, cnd, Act.put, cond_true]
  simp only [List.setIfInBounds_toArray, List.set_cons_zero, List.set_cons_succ]
  have hb5 : Below w3.heap.size w3 w5 := hb4.trans (ho5.below (by omega))
  have hS5 := hX3.keep hb5
  have hR5 := hR3.keep hb5
  have hB5 := hB3.trans (hb5.mono (by omega))
  have hw5 : b + 2 ≤ wq := by omega
  clear hX4 hb4 ho5 hb5 hX3 hR3 hB3 hwq hs3
  go_wp2_with fail
  go_loopw [36] (fun i wr => ∃ (j : Nat) (ls : List UInt8), j ≤ n ∧ i = .int .i64 j ∧ ls.length = 64 ∧ Blk wr wq (⟨f, bb0, ls⟩ : Pw).cells 70 ∧ Blk wr b rs0 35 ∧ Blk wr (b + 1) #[.slice none 0 0, .slice none 0 0, .int .i64 0, .bool false] 35 ∧ Below b w wr) (fun i _ => n - (intOf i).toNat)
  case atStart => exact ⟨0, z64, Nat.zero_le _, rfl, rfl, hX5, hS5, hR5, hB5⟩
  case round =>
    clear hX5 hS5 hR5 hB5
    obtain ⟨j, ls, hj, rfl, hls, hXj, hSj, hRj, hBj⟩ := hrel
    by_cases hjl : j < n
    · have i5 : (j : Int) < (n : Int) := by omega
      obtain ⟨u, hu⟩ : ∃ u, l[j]? = some u := ⟨_, List.getElem?_eq_getElem (show j < l.length by have := HN.out; omega)⟩
      obtain ⟨ad, rfl, _, hcu⟩ := HR.out wr (by rw [hb]; exact hBj) j u hu
      have ix := bixB wr ad n c j hjl
      have ld := ld_u8B hcu
      have f2 := rw_f2 wr wq
      have ixa := ix_aB wr wq j (by omega)
      go_upto_region 10 with fail
      refine wp_region_lit ?_
      refine fl_start ?_
      generalize ha : Act.mk _ _ = a0
      have hn : a0.tmps.size = 56 := by rw [← ha]; kernel_rfl
      have h3 : (fr a0 []).eval (.tmp 3) = .slice (some ad) n c := by rw [← ha]; kernel_rfl
      refine fl_know hn rfl h3 ?_
      clear h3
      have h11 : (fr a0 [(3, true, .slice (some ad) n c)]).eval (.tmp 11) = .pointer (some ⟨wq, 0, none⟩) := by rw [← ha]; kernel_rfl
      refine fl_know hn rfl h11 ?_
      clear h11
      have h12 : (fr a0 [(11, true, .pointer (some ⟨wq, 0, none⟩)), (3, true, .slice (some ad) n c)]).eval (.tmp 12) = .int .i64 (j : Nat) := by rw [← ha]; kernel_rfl
      refine fl_know hn rfl h12 ?_
      clear h12
      refine g_mv hn ?_
      refine g_mv hn ?_
      refine g_mv hn ?_
      refine g_ix hn ?_
      refine g_ld hn ?_
      refine g_fd hn ?_
      refine g_ix hn ?_
      refine g_stt hXj (hr := st_u8B (j := 2 + j) hXj (by rw [pw_size hls]; omega) u) ?_
      intro w9 ho9 hX9
      refine fl_end ?_
      clear hn ix ld f2 ixa
      subst ha
      dsimp only [fr, cnd, Act.put, cond_true]
      simp only [List.setIfInBounds_toArray, List.set_cons_zero, List.set_cons_succ]
      rw [rw_setB] at hX9
      have hS9 := hSj.only ho9 (by omega)
      have hR9 := hRj.only ho9 (by omega)
      have hB9 := hBj.trans (ho9.below (by omega))
      have hl9 : (ls.set j u).length = 64 := by rw [List.length_set]; exact hls
      clear hXj hSj hRj hBj ho9 hcu hu
      go_wp2_with fail
      refine ⟨?_, ?_⟩
      · first
        | exact ⟨j + 1, _, by omega, by go_num, hl9, hX9, hS9, hR9, hB9⟩
        | repeat apply Exists.intro
          refine ⟨?_, rfl⟩
          exact ⟨j + 1, _, by omega, by go_num, hl9, hX9, hS9, hR9, hB9⟩
      · simp [intOf]; omega
    · have i5 : ¬ (j : Int) < (n : Int) := by omega
      obtain ⟨x, hx⟩ : ∃ x : Pw, x = ⟨f, bb0, ls⟩ := ⟨_, rfl⟩
      have hl : x.l.length = 64 := by rw [hx]; exact hls
      rw [← hx] at hXj
      clear hx hls
      obtain ⟨w7, hw7⟩ : ∃ w7, w7 = wr := ⟨_, rfl⟩
      rw [← hw7] at hXj hSj hRj hBj ⊢
      clear hw7
      have hwql := hXj.lt
      have k1 : ∀ W : World, (fun W => (∃ (A : Option Addr) (n c : Nat), Blk W b (rsS none 0 0 A n c) 35) ∧ Blk W wq x.cells 70) W → _ := fun W _ => rs_a1 W b
      have l4 : ∀ W : World, (fun W => (∃ (A : Option Addr) (n c : Nat), Blk W b (rsS none 0 0 A n c) 35) ∧ Blk W wq x.cells 70) W → (Instr.loadAt 70 (.pointer (some ⟨wq, 0, none⟩))).run Tryd.prog W = .ok (.agg x.cells) W := fun W hW => rw_la hW.2 hl
      go_upto_region 12 with fail
      refine fh_start (S := (fun W => (∃ (A : Option Addr) (n c : Nat), Blk W b (rsS none 0 0 A n c) 35) ∧ Blk W wq x.cells 70)) (by kernel_rfl) (⟨⟨none, 0, 0, hSj⟩, hXj⟩) (fun hS => ?_)
      generalize ha : Act.mk _ _ = a0
      have hn : a0.tmps.size = 56 := by rw [← ha]; kernel_rfl
      have h4 : (fr a0 []).eval (.tmp 4) = .pointer (some ⟨b, 0, none⟩) := by rw [← ha]; kernel_rfl
      refine fh_know hn rfl h4 ?_
      clear h4
      have h11 : (fr a0 [(4, true, .pointer (some ⟨b, 0, none⟩))]).eval (.tmp 11) = .pointer (some ⟨wq, 0, none⟩) := by rw [← ha]; kernel_rfl
      refine fh_know hn rfl h11 ?_
      clear h11
      refine h_fd 1 hn hS ?_
      refine h_ld 4 hn hS ?_
      refine fh_three (i := 0) (j := 2) (k := 5) (by kernel_rfl) ?_ ?_ ?_
      · skip
        have ba15 := b0 w7.drew (.cells #[] 70)
        have hE11 := own0Rw w7.drew w7.heap.size (((Below.refl w7.heap.size w7).drew)).size
        have hbb12 : Below w7.heap.size w7 (w7.drew.alloc (.cells #[] 70)) := (((Below.refl w7.heap.size w7).drew)).trans (ba15.mono (((Below.refl w7.heap.size w7).drew)).size)
        refine one_valx (d := 47) hn rfl (fun hk => x_bsW0) ⟨⟨none, 0, 0, hSj.keep hbb12⟩, hXj.keep hbb12⟩ ?_ rfl rfl rfl
        generalize w7.drew.heap.size = g14 at hE11 ⊢
        generalize w7.drew.alloc (.cells #[] 70) = v13 at hE11 hbb12 ba15  ⊢
        refine fh_two (i := 2) (j := 5) (by kernel_rfl) ?_ ?_
        · skip
          refine one_valx (d := 49) (v := .slice none 0 0) (w2 := v13) hn rfl (fun hk => x_ld (lk_at hk (i := 48) rfl (fun _ => rfl) rfl) (rs_lA (W := v13) (g := b) (j := 1) ((hSj.keep (hbb12)).cell 1))) ⟨⟨none, 0, 0, hSj.keep hbb12⟩, hXj.keep hbb12⟩ ?_ rfl rfl rfl
          refine fh_two (i := 3) (j := 5) (by kernel_rfl) ?_ ?_
          · skip
            refine one_valx (d := 50) (w2 := v13) (v := .slice (some ⟨g14, 0, none⟩) 0 0) hn rfl (fun hk => x_ap (lk_at hk (i := 47) rfl (fun _ => rfl) rfl) (lk_at hk (i := 49) rfl (fun _ => rfl) rfl) (run_apNilW v13 ⟨g14, 0, none⟩ 0 0 0 _ (Nat.le_refl _))) ⟨⟨none, 0, 0, hSj.keep hbb12⟩, hXj.keep hbb12⟩ ?_ rfl rfl rfl
            have ba20 := b0 v13 (.cells x.cells 70)
            have hK16 := blk_new v13 x.cells 70
            have hbb17 : Below w7.heap.size w7 (v13.alloc (.cells x.cells 70)) := (hbb12).trans (ba20.mono (hbb12).size)
            have hE11' := hE11.keep ba20
            refine fh_valx 5 (d := 52) hn rfl (fun hk => x_bsW1 hl (lk_at hk (i := 51) rfl (fun _ => rfl) rfl)) ⟨⟨none, 0, 0, hSj.keep hbb17⟩, hXj.keep hbb17⟩ ?_ rfl rfl (by kernel_rfl) rfl
            generalize v13.heap.size = gk19 at hK16 ⊢
            generalize v13.alloc (.cells x.cells 70) = v18 at hK16 hbb17 ba20 hE11' ⊢
            obtain ⟨A4, c4, w9, hr9, hb9⟩ := run_apW1 (ty := 33) v18 hl hE11' hK16 (hbb17).size
            have hb10 := hbb17.trans hb9
            refine fh_valx 6 (d := 53) hn rfl (fun hk => x_ap (lk_at hk (i := 50) rfl (fun _ => rfl) rfl) (lk_at hk (i := 52) rfl (fun _ => rfl) rfl) hr9) ⟨⟨none, 0, 0, hSj.keep hb10⟩, hXj.keep hb10⟩ ?_ rfl rfl (by kernel_rfl) rfl
            refine h_fd 7 hn ⟨⟨none, 0, 0, hSj.keep hb10⟩, hXj.keep hb10⟩ ?_
            have hXE := hSj.keep hb10
            have ho4 := only_cell w9 b 1 (.slice A4 1 c4)
            have hX4 : Blk (w9.setCell ⟨b, 1, none⟩ (.slice A4 1 c4)) b (rsS none 0 0 A4 1 c4) 35 := hXE.set 1 (.slice A4 1 c4)
            refine h_st 8 (rs_stA (j := 1) hXE (by simp) A4 1 c4) ⟨⟨_, _, _, hX4⟩, (hXj.keep hb10).only ho4 (by omega)⟩ ?_
            refine fh_end (by kernel_rfl) ?_
            clear hn k1 l4
            subst ha
            dsimp only [fr, cnd, Act.put, cond_true]
            simp only [List.setIfInBounds_toArray, List.set_cons_zero, List.set_cons_succ]
            have hR8 := (hRj.keep hb10).only ho4 (by omega)
            have hB8 : Below b w (w9.setCell ⟨b, 1, none⟩ (.slice A4 1 c4)) := (hBj.trans (hb10.mono (by omega))).trans (ho4.below (Nat.le_refl _))
            generalize w9.setCell ⟨b, 1, none⟩ (.slice A4 1 c4) = w11 at hX4 hR8 hB8 ⊢
            have la := rs_la hX4 rfl
            go_upto_region 13 with fail
            refine wp_region_lit ?_
            refine fl_start ?_
            generalize ha : Act.mk _ _ = a0
            have hn : a0.tmps.size = 56 := by rw [← ha]; kernel_rfl
            have h4 : (fr a0 []).eval (.tmp 4) = .pointer (some ⟨b, 0, none⟩) := by rw [← ha]; kernel_rfl
            refine fl_know hn rfl h4 ?_
            clear h4
            have h8 : (fr a0 [(4, true, .pointer (some ⟨b, 0, none⟩))]).eval (.tmp 8) = .pointer (some ⟨b + 1, 0, none⟩) := by rw [← ha]; kernel_rfl
            refine fl_know hn rfl h8 ?_
            clear h8
            refine g_ld hn ?_
            refine g_str hR8 ?_ (h1 := by simp [Value.oneCell'])
            intro w9 ho9 hR9
            refine g_ac hn ?_
            refine fl_end ?_
            clear hn la
            subst ha
            dsimp only [fr, cnd, Act.put, cond_true]
            simp only [List.setIfInBounds_toArray, List.set_cons_zero, List.set_cons_succ]
            have hB9 := hB8.trans (ho9.below (by omega))
            go_wp2_with fail
            refine bodyPost_ret (results_ct_row Tryd.results15 _ _ (b + 1) 35 (rsS none 0 0 A4 1 c4) (0, 0) _ (by rfl) hR9 Tryd.underlying35 (by rfl) (by kernel_rfl)) rfl ?_
            exact ⟨_, _, _, _, _, _, rfl, by first | exact hB9 | (rw [hb]; exact hB9)⟩
          · skip
            have ba25 := b0 v13 (.cells x.cells 70)
            have hK21 := blk_new v13 x.cells 70
            have hbb22 : Below w7.heap.size w7 (v13.alloc (.cells x.cells 70)) := (hbb12).trans (ba25.mono (hbb12).size)
            have hE11' := hE11.keep ba25
            refine one_valx (d := 52) hn rfl (fun hk => x_bsW1 hl (lk_at hk (i := 51) rfl (fun _ => rfl) rfl)) ⟨⟨none, 0, 0, hSj.keep hbb22⟩, hXj.keep hbb22⟩ ?_ rfl rfl rfl
            generalize v13.heap.size = gk24 at hK21 ⊢
            generalize v13.alloc (.cells x.cells 70) = v23 at hK21 hbb22 ba25 hE11' ⊢
            refine fh_valx 3 (d := 50) (w2 := v23) (v := .slice (some ⟨g14, 0, none⟩) 0 0) hn rfl (fun hk => x_ap (lk_at hk (i := 47) rfl (fun _ => rfl) rfl) (lk_at hk (i := 49) rfl (fun _ => rfl) rfl) (run_apNilW v23 ⟨g14, 0, none⟩ 0 0 0 _ (Nat.le_refl _))) ⟨⟨none, 0, 0, hSj.keep hbb22⟩, hXj.keep hbb22⟩ ?_ rfl rfl (by kernel_rfl) rfl
            obtain ⟨A4, c4, w9, hr9, hb9⟩ := run_apW1 (ty := 33) v23 hl hE11' hK21 (hbb22).size
            have hb10 := hbb22.trans hb9
            refine fh_valx 6 (d := 53) hn rfl (fun hk => x_ap (lk_at hk (i := 50) rfl (fun _ => rfl) rfl) (lk_at hk (i := 52) rfl (fun _ => rfl) rfl) hr9) ⟨⟨none, 0, 0, hSj.keep hb10⟩, hXj.keep hb10⟩ ?_ rfl rfl (by kernel_rfl) rfl
            refine h_fd 7 hn ⟨⟨none, 0, 0, hSj.keep hb10⟩, hXj.keep hb10⟩ ?_
            have hXE := hSj.keep hb10
            have ho4 := only_cell w9 b 1 (.slice A4 1 c4)
            have hX4 : Blk (w9.setCell ⟨b, 1, none⟩ (.slice A4 1 c4)) b (rsS none 0 0 A4 1 c4) 35 := hXE.set 1 (.slice A4 1 c4)
            refine h_st 8 (rs_stA (j := 1) hXE (by simp) A4 1 c4) ⟨⟨_, _, _, hX4⟩, (hXj.keep hb10).only ho4 (by omega)⟩ ?_
            refine fh_end (by kernel_rfl) ?_
            clear hn k1 l4
            subst ha
            dsimp only [fr, cnd, Act.put, cond_true]
            simp only [List.setIfInBounds_toArray, List.set_cons_zero, List.set_cons_succ]
            have hR8 := (hRj.keep hb10).only ho4 (by omega)
            have hB8 : Below b w (w9.setCell ⟨b, 1, none⟩ (.slice A4 1 c4)) := (hBj.trans (hb10.mono (by omega))).trans (ho4.below (Nat.le_refl _))
            generalize w9.setCell ⟨b, 1, none⟩ (.slice A4 1 c4) = w11 at hX4 hR8 hB8 ⊢
            have la := rs_la hX4 rfl
            go_upto_region 13 with fail
            refine wp_region_lit ?_
            refine fl_start ?_
            generalize ha : Act.mk _ _ = a0
            have hn : a0.tmps.size = 56 := by rw [← ha]; kernel_rfl
            have h4 : (fr a0 []).eval (.tmp 4) = .pointer (some ⟨b, 0, none⟩) := by rw [← ha]; kernel_rfl
            refine fl_know hn rfl h4 ?_
            clear h4
            have h8 : (fr a0 [(4, true, .pointer (some ⟨b, 0, none⟩))]).eval (.tmp 8) = .pointer (some ⟨b + 1, 0, none⟩) := by rw [← ha]; kernel_rfl
            refine fl_know hn rfl h8 ?_
            clear h8
            refine g_ld hn ?_
            refine g_str hR8 ?_ (h1 := by simp [Value.oneCell'])
            intro w9 ho9 hR9
            refine g_ac hn ?_
            refine fl_end ?_
            clear hn la
            subst ha
            dsimp only [fr, cnd, Act.put, cond_true]
            simp only [List.setIfInBounds_toArray, List.set_cons_zero, List.set_cons_succ]
            have hB9 := hB8.trans (ho9.below (by omega))
            go_wp2_with fail
            refine bodyPost_ret (results_ct_row Tryd.results15 _ _ (b + 1) 35 (rsS none 0 0 A4 1 c4) (0, 0) _ (by rfl) hR9 Tryd.underlying35 (by rfl) (by kernel_rfl)) rfl ?_
            exact ⟨_, _, _, _, _, _, rfl, by first | exact hB9 | (rw [hb]; exact hB9)⟩
        · skip
          have ba30 := b0 v13 (.cells x.cells 70)
          have hK26 := blk_new v13 x.cells 70
          have hbb27 : Below w7.heap.size w7 (v13.alloc (.cells x.cells 70)) := (hbb12).trans (ba30.mono (hbb12).size)
          have hE11' := hE11.keep ba30
          refine one_valx (d := 52) hn rfl (fun hk => x_bsW1 hl (lk_at hk (i := 51) rfl (fun _ => rfl) rfl)) ⟨⟨none, 0, 0, hSj.keep hbb27⟩, hXj.keep hbb27⟩ ?_ rfl rfl rfl
          generalize v13.heap.size = gk29 at hK26 ⊢
          generalize v13.alloc (.cells x.cells 70) = v28 at hK26 hbb27 ba30 hE11' ⊢
          refine fh_valx 2 (d := 49) (v := .slice none 0 0) (w2 := v28) hn rfl (fun hk => x_ld (lk_at hk (i := 48) rfl (fun _ => rfl) rfl) (rs_lA (W := v28) (g := b) (j := 1) ((hSj.keep (hbb27)).cell 1))) ⟨⟨none, 0, 0, hSj.keep hbb27⟩, hXj.keep hbb27⟩ ?_ rfl rfl (by kernel_rfl) rfl
          refine fh_valx 3 (d := 50) (w2 := v28) (v := .slice (some ⟨g14, 0, none⟩) 0 0) hn rfl (fun hk => x_ap (lk_at hk (i := 47) rfl (fun _ => rfl) rfl) (lk_at hk (i := 49) rfl (fun _ => rfl) rfl) (run_apNilW v28 ⟨g14, 0, none⟩ 0 0 0 _ (Nat.le_refl _))) ⟨⟨none, 0, 0, hSj.keep hbb27⟩, hXj.keep hbb27⟩ ?_ rfl rfl (by kernel_rfl) rfl
          obtain ⟨A4, c4, w9, hr9, hb9⟩ := run_apW1 (ty := 33) v28 hl hE11' hK26 (hbb27).size
          have hb10 := hbb27.trans hb9
          refine fh_valx 6 (d := 53) hn rfl (fun hk => x_ap (lk_at hk (i := 50) rfl (fun _ => rfl) rfl) (lk_at hk (i := 52) rfl (fun _ => rfl) rfl) hr9) ⟨⟨none, 0, 0, hSj.keep hb10⟩, hXj.keep hb10⟩ ?_ rfl rfl (by kernel_rfl) rfl
          refine h_fd 7 hn ⟨⟨none, 0, 0, hSj.keep hb10⟩, hXj.keep hb10⟩ ?_
          have hXE := hSj.keep hb10
          have ho4 := only_cell w9 b 1 (.slice A4 1 c4)
          have hX4 : Blk (w9.setCell ⟨b, 1, none⟩ (.slice A4 1 c4)) b (rsS none 0 0 A4 1 c4) 35 := hXE.set 1 (.slice A4 1 c4)
          refine h_st 8 (rs_stA (j := 1) hXE (by simp) A4 1 c4) ⟨⟨_, _, _, hX4⟩, (hXj.keep hb10).only ho4 (by omega)⟩ ?_
          refine fh_end (by kernel_rfl) ?_
          clear hn k1 l4
          subst ha
          dsimp only [fr, cnd, Act.put, cond_true]
          simp only [List.setIfInBounds_toArray, List.set_cons_zero, List.set_cons_succ]
          have hR8 := (hRj.keep hb10).only ho4 (by omega)
          have hB8 : Below b w (w9.setCell ⟨b, 1, none⟩ (.slice A4 1 c4)) := (hBj.trans (hb10.mono (by omega))).trans (ho4.below (Nat.le_refl _))
          generalize w9.setCell ⟨b, 1, none⟩ (.slice A4 1 c4) = w11 at hX4 hR8 hB8 ⊢
          have la := rs_la hX4 rfl
          go_upto_region 13 with fail
          refine wp_region_lit ?_
          refine fl_start ?_
          generalize ha : Act.mk _ _ = a0
          have hn : a0.tmps.size = 56 := by rw [← ha]; kernel_rfl
          have h4 : (fr a0 []).eval (.tmp 4) = .pointer (some ⟨b, 0, none⟩) := by rw [← ha]; kernel_rfl
          refine fl_know hn rfl h4 ?_
          clear h4
          have h8 : (fr a0 [(4, true, .pointer (some ⟨b, 0, none⟩))]).eval (.tmp 8) = .pointer (some ⟨b + 1, 0, none⟩) := by rw [← ha]; kernel_rfl
          refine fl_know hn rfl h8 ?_
          clear h8
          refine g_ld hn ?_
          refine g_str hR8 ?_ (h1 := by simp [Value.oneCell'])
          intro w9 ho9 hR9
          refine g_ac hn ?_
          refine fl_end ?_
          clear hn la
          subst ha
          dsimp only [fr, cnd, Act.put, cond_true]
          simp only [List.setIfInBounds_toArray, List.set_cons_zero, List.set_cons_succ]
          have hB9 := hB8.trans (ho9.below (by omega))
          go_wp2_with fail
          refine bodyPost_ret (results_ct_row Tryd.results15 _ _ (b + 1) 35 (rsS none 0 0 A4 1 c4) (0, 0) _ (by rfl) hR9 Tryd.underlying35 (by rfl) (by kernel_rfl)) rfl ?_
          exact ⟨_, _, _, _, _, _, rfl, by first | exact hB9 | (rw [hb]; exact hB9)⟩
      · skip
        refine one_valx (d := 49) (v := .slice none 0 0) (w2 := w7.drew) hn rfl (fun hk => x_ld (lk_at hk (i := 48) rfl (fun _ => rfl) rfl) (rs_lA (W := w7.drew) (g := b) (j := 1) ((hSj.keep (((Below.refl w7.heap.size w7).drew))).cell 1))) ⟨⟨none, 0, 0, hSj.keep ((Below.refl w7.heap.size w7).drew)⟩, hXj.keep ((Below.refl w7.heap.size w7).drew)⟩ ?_ rfl rfl rfl
        refine fh_two (i := 0) (j := 5) (by kernel_rfl) ?_ ?_
        · skip
          have ba35 := b0 w7.drew (.cells #[] 70)
          have hE31 := own0Rw w7.drew w7.heap.size (((Below.refl w7.heap.size w7).drew)).size
          have hbb32 : Below w7.heap.size w7 (w7.drew.alloc (.cells #[] 70)) := (((Below.refl w7.heap.size w7).drew)).trans (ba35.mono (((Below.refl w7.heap.size w7).drew)).size)
          refine one_valx (d := 47) hn rfl (fun hk => x_bsW0) ⟨⟨none, 0, 0, hSj.keep hbb32⟩, hXj.keep hbb32⟩ ?_ rfl rfl rfl
          generalize w7.drew.heap.size = g34 at hE31 ⊢
          generalize w7.drew.alloc (.cells #[] 70) = v33 at hE31 hbb32 ba35  ⊢
          refine fh_two (i := 3) (j := 5) (by kernel_rfl) ?_ ?_
          · skip
            refine one_valx (d := 50) (w2 := v33) (v := .slice (some ⟨g34, 0, none⟩) 0 0) hn rfl (fun hk => x_ap (lk_at hk (i := 47) rfl (fun _ => rfl) rfl) (lk_at hk (i := 49) rfl (fun _ => rfl) rfl) (run_apNilW v33 ⟨g34, 0, none⟩ 0 0 0 _ (Nat.le_refl _))) ⟨⟨none, 0, 0, hSj.keep hbb32⟩, hXj.keep hbb32⟩ ?_ rfl rfl rfl
            have ba40 := b0 v33 (.cells x.cells 70)
            have hK36 := blk_new v33 x.cells 70
            have hbb37 : Below w7.heap.size w7 (v33.alloc (.cells x.cells 70)) := (hbb32).trans (ba40.mono (hbb32).size)
            have hE31' := hE31.keep ba40
            refine fh_valx 5 (d := 52) hn rfl (fun hk => x_bsW1 hl (lk_at hk (i := 51) rfl (fun _ => rfl) rfl)) ⟨⟨none, 0, 0, hSj.keep hbb37⟩, hXj.keep hbb37⟩ ?_ rfl rfl (by kernel_rfl) rfl
            generalize v33.heap.size = gk39 at hK36 ⊢
            generalize v33.alloc (.cells x.cells 70) = v38 at hK36 hbb37 ba40 hE31' ⊢
            obtain ⟨A4, c4, w9, hr9, hb9⟩ := run_apW1 (ty := 33) v38 hl hE31' hK36 (hbb37).size
            have hb10 := hbb37.trans hb9
            refine fh_valx 6 (d := 53) hn rfl (fun hk => x_ap (lk_at hk (i := 50) rfl (fun _ => rfl) rfl) (lk_at hk (i := 52) rfl (fun _ => rfl) rfl) hr9) ⟨⟨none, 0, 0, hSj.keep hb10⟩, hXj.keep hb10⟩ ?_ rfl rfl (by kernel_rfl) rfl
            refine h_fd 7 hn ⟨⟨none, 0, 0, hSj.keep hb10⟩, hXj.keep hb10⟩ ?_
            have hXE := hSj.keep hb10
            have ho4 := only_cell w9 b 1 (.slice A4 1 c4)
            have hX4 : Blk (w9.setCell ⟨b, 1, none⟩ (.slice A4 1 c4)) b (rsS none 0 0 A4 1 c4) 35 := hXE.set 1 (.slice A4 1 c4)
            refine h_st 8 (rs_stA (j := 1) hXE (by simp) A4 1 c4) ⟨⟨_, _, _, hX4⟩, (hXj.keep hb10).only ho4 (by omega)⟩ ?_
            refine fh_end (by kernel_rfl) ?_
            clear hn k1 l4
            subst ha
            dsimp only [fr, cnd, Act.put, cond_true]
            simp only [List.setIfInBounds_toArray, List.set_cons_zero, List.set_cons_succ]
            have hR8 := (hRj.keep hb10).only ho4 (by omega)
            have hB8 : Below b w (w9.setCell ⟨b, 1, none⟩ (.slice A4 1 c4)) := (hBj.trans (hb10.mono (by omega))).trans (ho4.below (Nat.le_refl _))
            generalize w9.setCell ⟨b, 1, none⟩ (.slice A4 1 c4) = w11 at hX4 hR8 hB8 ⊢
            have la := rs_la hX4 rfl
            go_upto_region 13 with fail
            refine wp_region_lit ?_
            refine fl_start ?_
            generalize ha : Act.mk _ _ = a0
            have hn : a0.tmps.size = 56 := by rw [← ha]; kernel_rfl
            have h4 : (fr a0 []).eval (.tmp 4) = .pointer (some ⟨b, 0, none⟩) := by rw [← ha]; kernel_rfl
            refine fl_know hn rfl h4 ?_
            clear h4
            have h8 : (fr a0 [(4, true, .pointer (some ⟨b, 0, none⟩))]).eval (.tmp 8) = .pointer (some ⟨b + 1, 0, none⟩) := by rw [← ha]; kernel_rfl
            refine fl_know hn rfl h8 ?_
            clear h8
            refine g_ld hn ?_
            refine g_str hR8 ?_ (h1 := by simp [Value.oneCell'])
            intro w9 ho9 hR9
            refine g_ac hn ?_
            refine fl_end ?_
            clear hn la
            subst ha
            dsimp only [fr, cnd, Act.put, cond_true]
            simp only [List.setIfInBounds_toArray, List.set_cons_zero, List.set_cons_succ]
            have hB9 := hB8.trans (ho9.below (by omega))
            go_wp2_with fail
            refine bodyPost_ret (results_ct_row Tryd.results15 _ _ (b + 1) 35 (rsS none 0 0 A4 1 c4) (0, 0) _ (by rfl) hR9 Tryd.underlying35 (by rfl) (by kernel_rfl)) rfl ?_
            exact ⟨_, _, _, _, _, _, rfl, by first | exact hB9 | (rw [hb]; exact hB9)⟩
          · skip
            have ba45 := b0 v33 (.cells x.cells 70)
            have hK41 := blk_new v33 x.cells 70
            have hbb42 : Below w7.heap.size w7 (v33.alloc (.cells x.cells 70)) := (hbb32).trans (ba45.mono (hbb32).size)
            have hE31' := hE31.keep ba45
            refine one_valx (d := 52) hn rfl (fun hk => x_bsW1 hl (lk_at hk (i := 51) rfl (fun _ => rfl) rfl)) ⟨⟨none, 0, 0, hSj.keep hbb42⟩, hXj.keep hbb42⟩ ?_ rfl rfl rfl
            generalize v33.heap.size = gk44 at hK41 ⊢
            generalize v33.alloc (.cells x.cells 70) = v43 at hK41 hbb42 ba45 hE31' ⊢
            refine fh_valx 3 (d := 50) (w2 := v43) (v := .slice (some ⟨g34, 0, none⟩) 0 0) hn rfl (fun hk => x_ap (lk_at hk (i := 47) rfl (fun _ => rfl) rfl) (lk_at hk (i := 49) rfl (fun _ => rfl) rfl) (run_apNilW v43 ⟨g34, 0, none⟩ 0 0 0 _ (Nat.le_refl _))) ⟨⟨none, 0, 0, hSj.keep hbb42⟩, hXj.keep hbb42⟩ ?_ rfl rfl (by kernel_rfl) rfl
            obtain ⟨A4, c4, w9, hr9, hb9⟩ := run_apW1 (ty := 33) v43 hl hE31' hK41 (hbb42).size
            have hb10 := hbb42.trans hb9
            refine fh_valx 6 (d := 53) hn rfl (fun hk => x_ap (lk_at hk (i := 50) rfl (fun _ => rfl) rfl) (lk_at hk (i := 52) rfl (fun _ => rfl) rfl) hr9) ⟨⟨none, 0, 0, hSj.keep hb10⟩, hXj.keep hb10⟩ ?_ rfl rfl (by kernel_rfl) rfl
            refine h_fd 7 hn ⟨⟨none, 0, 0, hSj.keep hb10⟩, hXj.keep hb10⟩ ?_
            have hXE := hSj.keep hb10
            have ho4 := only_cell w9 b 1 (.slice A4 1 c4)
            have hX4 : Blk (w9.setCell ⟨b, 1, none⟩ (.slice A4 1 c4)) b (rsS none 0 0 A4 1 c4) 35 := hXE.set 1 (.slice A4 1 c4)
            refine h_st 8 (rs_stA (j := 1) hXE (by simp) A4 1 c4) ⟨⟨_, _, _, hX4⟩, (hXj.keep hb10).only ho4 (by omega)⟩ ?_
            refine fh_end (by kernel_rfl) ?_
            clear hn k1 l4
            subst ha
            dsimp only [fr, cnd, Act.put, cond_true]
            simp only [List.setIfInBounds_toArray, List.set_cons_zero, List.set_cons_succ]
            have hR8 := (hRj.keep hb10).only ho4 (by omega)
            have hB8 : Below b w (w9.setCell ⟨b, 1, none⟩ (.slice A4 1 c4)) := (hBj.trans (hb10.mono (by omega))).trans (ho4.below (Nat.le_refl _))
            generalize w9.setCell ⟨b, 1, none⟩ (.slice A4 1 c4) = w11 at hX4 hR8 hB8 ⊢
            have la := rs_la hX4 rfl
            go_upto_region 13 with fail
            refine wp_region_lit ?_
            refine fl_start ?_
            generalize ha : Act.mk _ _ = a0
            have hn : a0.tmps.size = 56 := by rw [← ha]; kernel_rfl
            have h4 : (fr a0 []).eval (.tmp 4) = .pointer (some ⟨b, 0, none⟩) := by rw [← ha]; kernel_rfl
            refine fl_know hn rfl h4 ?_
            clear h4
            have h8 : (fr a0 [(4, true, .pointer (some ⟨b, 0, none⟩))]).eval (.tmp 8) = .pointer (some ⟨b + 1, 0, none⟩) := by rw [← ha]; kernel_rfl
            refine fl_know hn rfl h8 ?_
            clear h8
            refine g_ld hn ?_
            refine g_str hR8 ?_ (h1 := by simp [Value.oneCell'])
            intro w9 ho9 hR9
            refine g_ac hn ?_
            refine fl_end ?_
            clear hn la
            subst ha
            dsimp only [fr, cnd, Act.put, cond_true]
            simp only [List.setIfInBounds_toArray, List.set_cons_zero, List.set_cons_succ]
            have hB9 := hB8.trans (ho9.below (by omega))
            go_wp2_with fail
            refine bodyPost_ret (results_ct_row Tryd.results15 _ _ (b + 1) 35 (rsS none 0 0 A4 1 c4) (0, 0) _ (by rfl) hR9 Tryd.underlying35 (by rfl) (by kernel_rfl)) rfl ?_
            exact ⟨_, _, _, _, _, _, rfl, by first | exact hB9 | (rw [hb]; exact hB9)⟩
        · skip
          have ba50 := b0 w7.drew (.cells x.cells 70)
          have hK46 := blk_new w7.drew x.cells 70
          have hbb47 : Below w7.heap.size w7 (w7.drew.alloc (.cells x.cells 70)) := (((Below.refl w7.heap.size w7).drew)).trans (ba50.mono (((Below.refl w7.heap.size w7).drew)).size)
          refine one_valx (d := 52) hn rfl (fun hk => x_bsW1 hl (lk_at hk (i := 51) rfl (fun _ => rfl) rfl)) ⟨⟨none, 0, 0, hSj.keep hbb47⟩, hXj.keep hbb47⟩ ?_ rfl rfl rfl
          generalize w7.drew.heap.size = gk49 at hK46 ⊢
          generalize w7.drew.alloc (.cells x.cells 70) = v48 at hK46 hbb47 ba50  ⊢
          have ba55 := b0 v48 (.cells #[] 70)
          have hE51 := own0Rw v48 w7.heap.size (hbb47).size
          have hbb52 : Below w7.heap.size w7 (v48.alloc (.cells #[] 70)) := (hbb47).trans (ba55.mono (hbb47).size)
          have hK46' := hK46.keep ba55
          refine fh_valx 0 (d := 47) hn rfl (fun hk => x_bsW0) ⟨⟨none, 0, 0, hSj.keep hbb52⟩, hXj.keep hbb52⟩ ?_ rfl rfl (by kernel_rfl) rfl
          generalize v48.heap.size = g54 at hE51 ⊢
          generalize v48.alloc (.cells #[] 70) = v53 at hE51 hbb52 ba55 hK46' ⊢
          refine fh_valx 3 (d := 50) (w2 := v53) (v := .slice (some ⟨g54, 0, none⟩) 0 0) hn rfl (fun hk => x_ap (lk_at hk (i := 47) rfl (fun _ => rfl) rfl) (lk_at hk (i := 49) rfl (fun _ => rfl) rfl) (run_apNilW v53 ⟨g54, 0, none⟩ 0 0 0 _ (Nat.le_refl _))) ⟨⟨none, 0, 0, hSj.keep hbb52⟩, hXj.keep hbb52⟩ ?_ rfl rfl (by kernel_rfl) rfl
          obtain ⟨A4, c4, w9, hr9, hb9⟩ := run_apW1 (ty := 33) v53 hl hE51 hK46' (hbb52).size
          have hb10 := hbb52.trans hb9
          refine fh_valx 6 (d := 53) hn rfl (fun hk => x_ap (lk_at hk (i := 50) rfl (fun _ => rfl) rfl) (lk_at hk (i := 52) rfl (fun _ => rfl) rfl) hr9) ⟨⟨none, 0, 0, hSj.keep hb10⟩, hXj.keep hb10⟩ ?_ rfl rfl (by kernel_rfl) rfl
          refine h_fd 7 hn ⟨⟨none, 0, 0, hSj.keep hb10⟩, hXj.keep hb10⟩ ?_
          have hXE := hSj.keep hb10
          have ho4 := only_cell w9 b 1 (.slice A4 1 c4)
          have hX4 : Blk (w9.setCell ⟨b, 1, none⟩ (.slice A4 1 c4)) b (rsS none 0 0 A4 1 c4) 35 := hXE.set 1 (.slice A4 1 c4)
          refine h_st 8 (rs_stA (j := 1) hXE (by simp) A4 1 c4) ⟨⟨_, _, _, hX4⟩, (hXj.keep hb10).only ho4 (by omega)⟩ ?_
          refine fh_end (by kernel_rfl) ?_
          clear hn k1 l4
          subst ha
          dsimp only [fr, cnd, Act.put, cond_true]
          simp only [List.setIfInBounds_toArray, List.set_cons_zero, List.set_cons_succ]
          have hR8 := (hRj.keep hb10).only ho4 (by omega)
          have hB8 : Below b w (w9.setCell ⟨b, 1, none⟩ (.slice A4 1 c4)) := (hBj.trans (hb10.mono (by omega))).trans (ho4.below (Nat.le_refl _))
          generalize w9.setCell ⟨b, 1, none⟩ (.slice A4 1 c4) = w11 at hX4 hR8 hB8 ⊢
          have la := rs_la hX4 rfl
          go_upto_region 13 with fail
          refine wp_region_lit ?_
          refine fl_start ?_
          generalize ha : Act.mk _ _ = a0
          have hn : a0.tmps.size = 56 := by rw [← ha]; kernel_rfl
          have h4 : (fr a0 []).eval (.tmp 4) = .pointer (some ⟨b, 0, none⟩) := by rw [← ha]; kernel_rfl
          refine fl_know hn rfl h4 ?_
          clear h4
          have h8 : (fr a0 [(4, true, .pointer (some ⟨b, 0, none⟩))]).eval (.tmp 8) = .pointer (some ⟨b + 1, 0, none⟩) := by rw [← ha]; kernel_rfl
          refine fl_know hn rfl h8 ?_
          clear h8
          refine g_ld hn ?_
          refine g_str hR8 ?_ (h1 := by simp [Value.oneCell'])
          intro w9 ho9 hR9
          refine g_ac hn ?_
          refine fl_end ?_
          clear hn la
          subst ha
          dsimp only [fr, cnd, Act.put, cond_true]
          simp only [List.setIfInBounds_toArray, List.set_cons_zero, List.set_cons_succ]
          have hB9 := hB8.trans (ho9.below (by omega))
          go_wp2_with fail
          refine bodyPost_ret (results_ct_row Tryd.results15 _ _ (b + 1) 35 (rsS none 0 0 A4 1 c4) (0, 0) _ (by rfl) hR9 Tryd.underlying35 (by rfl) (by kernel_rfl)) rfl ?_
          exact ⟨_, _, _, _, _, _, rfl, by first | exact hB9 | (rw [hb]; exact hB9)⟩
      · skip
        have ba60 := b0 w7.drew (.cells x.cells 70)
        have hK56 := blk_new w7.drew x.cells 70
        have hbb57 : Below w7.heap.size w7 (w7.drew.alloc (.cells x.cells 70)) := (((Below.refl w7.heap.size w7).drew)).trans (ba60.mono (((Below.refl w7.heap.size w7).drew)).size)
        refine one_valx (d := 52) hn rfl (fun hk => x_bsW1 hl (lk_at hk (i := 51) rfl (fun _ => rfl) rfl)) ⟨⟨none, 0, 0, hSj.keep hbb57⟩, hXj.keep hbb57⟩ ?_ rfl rfl rfl
        generalize w7.drew.heap.size = gk59 at hK56 ⊢
        generalize w7.drew.alloc (.cells x.cells 70) = v58 at hK56 hbb57 ba60  ⊢
        refine fh_two (i := 0) (j := 2) (by kernel_rfl) ?_ ?_
        · skip
          have ba65 := b0 v58 (.cells #[] 70)
          have hE61 := own0Rw v58 w7.heap.size (hbb57).size
          have hbb62 : Below w7.heap.size w7 (v58.alloc (.cells #[] 70)) := (hbb57).trans (ba65.mono (hbb57).size)
          have hK56' := hK56.keep ba65
          refine one_valx (d := 47) hn rfl (fun hk => x_bsW0) ⟨⟨none, 0, 0, hSj.keep hbb62⟩, hXj.keep hbb62⟩ ?_ rfl rfl rfl
          generalize v58.heap.size = g64 at hE61 ⊢
          generalize v58.alloc (.cells #[] 70) = v63 at hE61 hbb62 ba65 hK56' ⊢
          refine fh_valx 2 (d := 49) (v := .slice none 0 0) (w2 := v63) hn rfl (fun hk => x_ld (lk_at hk (i := 48) rfl (fun _ => rfl) rfl) (rs_lA (W := v63) (g := b) (j := 1) ((hSj.keep (hbb62)).cell 1))) ⟨⟨none, 0, 0, hSj.keep hbb62⟩, hXj.keep hbb62⟩ ?_ rfl rfl (by kernel_rfl) rfl
          refine fh_valx 3 (d := 50) (w2 := v63) (v := .slice (some ⟨g64, 0, none⟩) 0 0) hn rfl (fun hk => x_ap (lk_at hk (i := 47) rfl (fun _ => rfl) rfl) (lk_at hk (i := 49) rfl (fun _ => rfl) rfl) (run_apNilW v63 ⟨g64, 0, none⟩ 0 0 0 _ (Nat.le_refl _))) ⟨⟨none, 0, 0, hSj.keep hbb62⟩, hXj.keep hbb62⟩ ?_ rfl rfl (by kernel_rfl) rfl
          obtain ⟨A4, c4, w9, hr9, hb9⟩ := run_apW1 (ty := 33) v63 hl hE61 hK56' (hbb62).size
          have hb10 := hbb62.trans hb9
          refine fh_valx 6 (d := 53) hn rfl (fun hk => x_ap (lk_at hk (i := 50) rfl (fun _ => rfl) rfl) (lk_at hk (i := 52) rfl (fun _ => rfl) rfl) hr9) ⟨⟨none, 0, 0, hSj.keep hb10⟩, hXj.keep hb10⟩ ?_ rfl rfl (by kernel_rfl) rfl
          refine h_fd 7 hn ⟨⟨none, 0, 0, hSj.keep hb10⟩, hXj.keep hb10⟩ ?_
          have hXE := hSj.keep hb10
          have ho4 := only_cell w9 b 1 (.slice A4 1 c4)
          have hX4 : Blk (w9.setCell ⟨b, 1, none⟩ (.slice A4 1 c4)) b (rsS none 0 0 A4 1 c4) 35 := hXE.set 1 (.slice A4 1 c4)
          refine h_st 8 (rs_stA (j := 1) hXE (by simp) A4 1 c4) ⟨⟨_, _, _, hX4⟩, (hXj.keep hb10).only ho4 (by omega)⟩ ?_
          refine fh_end (by kernel_rfl) ?_
          clear hn k1 l4
          subst ha
          dsimp only [fr, cnd, Act.put, cond_true]
          simp only [List.setIfInBounds_toArray, List.set_cons_zero, List.set_cons_succ]
          have hR8 := (hRj.keep hb10).only ho4 (by omega)
          have hB8 : Below b w (w9.setCell ⟨b, 1, none⟩ (.slice A4 1 c4)) := (hBj.trans (hb10.mono (by omega))).trans (ho4.below (Nat.le_refl _))
          generalize w9.setCell ⟨b, 1, none⟩ (.slice A4 1 c4) = w11 at hX4 hR8 hB8 ⊢
          have la := rs_la hX4 rfl
          go_upto_region 13 with fail
          refine wp_region_lit ?_
          refine fl_start ?_
          generalize ha : Act.mk _ _ = a0
          have hn : a0.tmps.size = 56 := by rw [← ha]; kernel_rfl
          have h4 : (fr a0 []).eval (.tmp 4) = .pointer (some ⟨b, 0, none⟩) := by rw [← ha]; kernel_rfl
          refine fl_know hn rfl h4 ?_
          clear h4
          have h8 : (fr a0 [(4, true, .pointer (some ⟨b, 0, none⟩))]).eval (.tmp 8) = .pointer (some ⟨b + 1, 0, none⟩) := by rw [← ha]; kernel_rfl
          refine fl_know hn rfl h8 ?_
          clear h8
          refine g_ld hn ?_
          refine g_str hR8 ?_ (h1 := by simp [Value.oneCell'])
          intro w9 ho9 hR9
          refine g_ac hn ?_
          refine fl_end ?_
          clear hn la
          subst ha
          dsimp only [fr, cnd, Act.put, cond_true]
          simp only [List.setIfInBounds_toArray, List.set_cons_zero, List.set_cons_succ]
          have hB9 := hB8.trans (ho9.below (by omega))
          go_wp2_with fail
          refine bodyPost_ret (results_ct_row Tryd.results15 _ _ (b + 1) 35 (rsS none 0 0 A4 1 c4) (0, 0) _ (by rfl) hR9 Tryd.underlying35 (by rfl) (by kernel_rfl)) rfl ?_
          exact ⟨_, _, _, _, _, _, rfl, by first | exact hB9 | (rw [hb]; exact hB9)⟩
        · skip
          refine one_valx (d := 49) (v := .slice none 0 0) (w2 := v58) hn rfl (fun hk => x_ld (lk_at hk (i := 48) rfl (fun _ => rfl) rfl) (rs_lA (W := v58) (g := b) (j := 1) ((hSj.keep (hbb57)).cell 1))) ⟨⟨none, 0, 0, hSj.keep hbb57⟩, hXj.keep hbb57⟩ ?_ rfl rfl rfl
          have ba70 := b0 v58 (.cells #[] 70)
          have hE66 := own0Rw v58 w7.heap.size (hbb57).size
          have hbb67 : Below w7.heap.size w7 (v58.alloc (.cells #[] 70)) := (hbb57).trans (ba70.mono (hbb57).size)
          have hK56' := hK56.keep ba70
          refine fh_valx 0 (d := 47) hn rfl (fun hk => x_bsW0) ⟨⟨none, 0, 0, hSj.keep hbb67⟩, hXj.keep hbb67⟩ ?_ rfl rfl (by kernel_rfl) rfl
          generalize v58.heap.size = g69 at hE66 ⊢
          generalize v58.alloc (.cells #[] 70) = v68 at hE66 hbb67 ba70 hK56' ⊢
          refine fh_valx 3 (d := 50) (w2 := v68) (v := .slice (some ⟨g69, 0, none⟩) 0 0) hn rfl (fun hk => x_ap (lk_at hk (i := 47) rfl (fun _ => rfl) rfl) (lk_at hk (i := 49) rfl (fun _ => rfl) rfl) (run_apNilW v68 ⟨g69, 0, none⟩ 0 0 0 _ (Nat.le_refl _))) ⟨⟨none, 0, 0, hSj.keep hbb67⟩, hXj.keep hbb67⟩ ?_ rfl rfl (by kernel_rfl) rfl
          obtain ⟨A4, c4, w9, hr9, hb9⟩ := run_apW1 (ty := 33) v68 hl hE66 hK56' (hbb67).size
          have hb10 := hbb67.trans hb9
          refine fh_valx 6 (d := 53) hn rfl (fun hk => x_ap (lk_at hk (i := 50) rfl (fun _ => rfl) rfl) (lk_at hk (i := 52) rfl (fun _ => rfl) rfl) hr9) ⟨⟨none, 0, 0, hSj.keep hb10⟩, hXj.keep hb10⟩ ?_ rfl rfl (by kernel_rfl) rfl
          refine h_fd 7 hn ⟨⟨none, 0, 0, hSj.keep hb10⟩, hXj.keep hb10⟩ ?_
          have hXE := hSj.keep hb10
          have ho4 := only_cell w9 b 1 (.slice A4 1 c4)
          have hX4 : Blk (w9.setCell ⟨b, 1, none⟩ (.slice A4 1 c4)) b (rsS none 0 0 A4 1 c4) 35 := hXE.set 1 (.slice A4 1 c4)
          refine h_st 8 (rs_stA (j := 1) hXE (by simp) A4 1 c4) ⟨⟨_, _, _, hX4⟩, (hXj.keep hb10).only ho4 (by omega)⟩ ?_
          refine fh_end (by kernel_rfl) ?_
          clear hn k1 l4
          subst ha
          dsimp only [fr, cnd, Act.put, cond_true]
          simp only [List.setIfInBounds_toArray, List.set_cons_zero, List.set_cons_succ]
          have hR8 := (hRj.keep hb10).only ho4 (by omega)
          have hB8 : Below b w (w9.setCell ⟨b, 1, none⟩ (.slice A4 1 c4)) := (hBj.trans (hb10.mono (by omega))).trans (ho4.below (Nat.le_refl _))
          generalize w9.setCell ⟨b, 1, none⟩ (.slice A4 1 c4) = w11 at hX4 hR8 hB8 ⊢
          have la := rs_la hX4 rfl
          go_upto_region 13 with fail
          refine wp_region_lit ?_
          refine fl_start ?_
          generalize ha : Act.mk _ _ = a0
          have hn : a0.tmps.size = 56 := by rw [← ha]; kernel_rfl
          have h4 : (fr a0 []).eval (.tmp 4) = .pointer (some ⟨b, 0, none⟩) := by rw [← ha]; kernel_rfl
          refine fl_know hn rfl h4 ?_
          clear h4
          have h8 : (fr a0 [(4, true, .pointer (some ⟨b, 0, none⟩))]).eval (.tmp 8) = .pointer (some ⟨b + 1, 0, none⟩) := by rw [← ha]; kernel_rfl
          refine fl_know hn rfl h8 ?_
          clear h8
          refine g_ld hn ?_
          refine g_str hR8 ?_ (h1 := by simp [Value.oneCell'])
          intro w9 ho9 hR9
          refine g_ac hn ?_
          refine fl_end ?_
          clear hn la
          subst ha
          dsimp only [fr, cnd, Act.put, cond_true]
          simp only [List.setIfInBounds_toArray, List.set_cons_zero, List.set_cons_succ]
          have hB9 := hB8.trans (ho9.below (by omega))
          go_wp2_with fail
          refine bodyPost_ret (results_ct_row Tryd.results15 _ _ (b + 1) 35 (rsS none 0 0 A4 1 c4) (0, 0) _ (by rfl) hR9 Tryd.underlying35 (by rfl) (by kernel_rfl)) rfl ?_
          exact ⟨_, _, _, _, _, _, rfl, by first | exact hB9 | (rw [hb]; exact hB9)⟩
end Go.Proofs.YtjbmhbnlanbbkaaDoor
