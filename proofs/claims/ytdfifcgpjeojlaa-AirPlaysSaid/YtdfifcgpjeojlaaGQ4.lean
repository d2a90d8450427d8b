/-
  WHAT IS PROVED: package air's Send and Double: what they answer and leave. Conditions: those typed in each theorem. · package air's Double: what it answers and leaves. Conditions: those typed in each theorem. · slices.Delete of one flight, of Go's own text. Conditions: those typed in each theorem. · package air's Take: what it answers and leaves. Conditions: those typed in each theorem.
-/
import Derived.Test.YtdfifcgpjeojlaaArB
import Derived.Laws.IdiomCopy
import Derived.Laws.OwnMore
namespace Go.Proofs.Ytdfifcgpjeojlaa
open Go.RowKit

theorem g_offA {l : List Oper} {Q : Exit → Act → World → Prop} {rest : List Oper} {a0 : Act} {L : List (Nat × Bool × Value)} {w : World} {P : Program} {o : Oper} {d n : Nat} (v : Value) (hn : a0.tmps.size = n) (h : FL P l Q rest a0 ((d, false, v) :: L) w) (ho : o.dst = some d := by rfl) (hd : Nat.blt d n = true := by rfl) (hw : wtG l L o.guard = some false := by rfl) : FL P l Q (o :: rest) a0 L w :=
  fl_op hn ho hd hw (fun _ hg => nomatch hg) h
/-- A parcel's value. -/
abbrev Fl.parcel (x : Fl) : Array Value := #[.int .i64 x.f, .int .i64 x.t, .slice x.A x.n x.c]
theorem pf0 (W : World) (b : Nat) : (Instr.fieldAt 29 (.pointer (some ⟨b, 0, none⟩)) 0).run Try.prog W = .ok (.pointer (some ⟨b, 0, none⟩)) W := by kernel_rfl
theorem pf1 (W : World) (b : Nat) : (Instr.fieldAt 29 (.pointer (some ⟨b, 0, none⟩)) 1).run Try.prog W = .ok (.pointer (some ⟨b, 1, none⟩)) W := by kernel_rfl
theorem ld_in {W : World} {a : Addr} {n : Int} (h : W.cell? a = some (.int .i64 n)) : (Instr.loadAt 3 (.pointer (some a))).run Try.prog W = .ok (.int .i64 n) W := by go_simp
theorem ld_pc {W : World} {b : Nat} {x : Fl} {t : TypeId} (h : Blk W b x.parcel t) : (Instr.loadAt 29 (.pointer (some ⟨b, 0, none⟩))).run Try.prog W = .ok (.agg x.parcel) W := by
  have c0 := h.cell 0
  have c1 := h.cell 1
  have c2 := h.cell 2
  clear h
  go_simp
theorem bd_fl (W : World) (x : Fl) : (Instr.build 62 #[(0, .agg x.parcel)]).run Try.prog W = .ok (.agg (⟨x.f, x.t, x.A, x.n, x.c, false, x.b⟩ : Fl).cells) W := by
  obtain ⟨f, t, A, n, c, u, b⟩ := x
  first
    | kernel_rfl
    | go_simp
/-- May a parcel go so? -/
def sendB (x : Fl) : Bool := nodeB x.f && nodeB x.t && !(x.f == x.t)
set_option maxRecDepth 100000 in
set_option maxHeartbeats 4000000 in
theorem sn_bad1 (p : Nat) (x : Fl) (w : World) (hf : nodeB x.f = false) : Calls Try.prog 7 #[.pointer (some ⟨p, 0, none⟩), .agg x.parcel] w fun e w' => e = .returned (.int .i64 1) ∧ Below w.heap.size w w' := by
  have hX0 := blk_new w x.parcel 29
  have hB := b0 w (.cells x.parcel 29)
  have hzz : (w.alloc (.cells x.parcel 29)).heap.size = w.heap.size + 1 := by simp
  go_enter Try.func7, Try.ntmps7
  go_upto_region 1 with fail
  generalize (w.alloc (.cells x.parcel 29)) = W0 at hX0 hB hzz ⊢
  generalize hb : w.heap.size = b at hX0 hB hzz ⊢
  have f0 := pf0 W0 b
  have f1 := pf1 W0 b
  have l0 := ld_in (hX0.cell 0)
  have l1 := ld_in (hX0.cell 1)
  have cF := isNode_any x.f W0
  refine wp_region_lit ?_
  refine fl_start ?_
  generalize ha : Act.mk _ _ = a0
  have hn : a0.tmps.size = 26 := by rw [← ha]; kernel_rfl
  have h3 : (fr a0 []).eval (.tmp 3) = .pointer (some ⟨b, 0, none⟩) := by rw [← ha]; kernel_rfl
  refine fl_know hn rfl h3 ?_
  clear h3
  refine g_fd hn ?_
  refine g_ld hn ?_
  refine g_c1x en_spinney_air_isNode hn (R := fun v w2 => v = .bool false ∧ W0 = w2) (cF.mono fun _ _ ⟨he, hw⟩ => ⟨_, he, by rw [hf], hw.symm⟩) ?_
  rintro v w2 ⟨rfl, hw2⟩
  subst hw2
  refine g_nt hn ?_
  refine g_mv hn ?_
  refine g_offA .nilIface hn ?_
  refine g_offA .nilIface hn ?_
  refine g_offA .nilIface hn ?_
  refine g_offA (.bool false) hn ?_
  refine g_or hn ?_
  refine g_mv hn ?_
  refine g_offA .nilIface hn ?_
  refine g_offA .nilIface hn ?_
  refine g_offA .nilIface hn ?_
  refine g_offA .nilIface hn ?_
  refine g_offA (.bool false) hn ?_
  refine g_or hn ?_
  refine fl_end ?_
  clear hn f0 f1 l0 l1 cF
  subst ha
  dsimp only [fr, cnd, Act.put, cond_true]
  simp only [List.setIfInBounds_toArray, List.set_cons_zero, List.set_cons_succ]

  go_wp2_with fail
  go_ret
  exact ⟨rfl, by first | exact hB | (rw [hb]; exact hB)⟩
set_option maxRecDepth 100000 in
set_option maxHeartbeats 4000000 in
theorem sn_bad2 (p : Nat) (x : Fl) (w : World) (hf : nodeB x.f = true) (ht : nodeB x.t = false) : Calls Try.prog 7 #[.pointer (some ⟨p, 0, none⟩), .agg x.parcel] w fun e w' => e = .returned (.int .i64 1) ∧ Below w.heap.size w w' := by
  have hX0 := blk_new w x.parcel 29
  have hB := b0 w (.cells x.parcel 29)
  have hzz : (w.alloc (.cells x.parcel 29)).heap.size = w.heap.size + 1 := by simp
  go_enter Try.func7, Try.ntmps7
  go_upto_region 1 with fail
  generalize (w.alloc (.cells x.parcel 29)) = W0 at hX0 hB hzz ⊢
  generalize hb : w.heap.size = b at hX0 hB hzz ⊢
  have f0 := pf0 W0 b
  have f1 := pf1 W0 b
  have l0 := ld_in (hX0.cell 0)
  have l1 := ld_in (hX0.cell 1)
  have cF := isNode_any x.f W0
  have cT := isNode_any x.t W0
  refine wp_region_lit ?_
  refine fl_start ?_
  generalize ha : Act.mk _ _ = a0
  have hn : a0.tmps.size = 26 := by rw [← ha]; kernel_rfl
  have h3 : (fr a0 []).eval (.tmp 3) = .pointer (some ⟨b, 0, none⟩) := by rw [← ha]; kernel_rfl
  refine fl_know hn rfl h3 ?_
  clear h3
  refine g_fd hn ?_
  refine g_ld hn ?_
  refine g_c1x en_spinney_air_isNode hn (R := fun v w2 => v = .bool true ∧ W0 = w2) (cF.mono fun _ _ ⟨he, hw⟩ => ⟨_, he, by rw [hf], hw.symm⟩) ?_
  rintro v w2 ⟨rfl, hw2⟩
  subst hw2
  refine g_nt hn ?_
  refine g_mv hn ?_
  refine g_fd hn ?_
  refine g_ld hn ?_
  refine g_c1x en_spinney_air_isNode hn (R := fun v w2 => v = .bool false ∧ W0 = w2) (cT.mono fun _ _ ⟨he, hw⟩ => ⟨_, he, by rw [ht], hw.symm⟩) ?_
  rintro v w2 ⟨rfl, hw2⟩
  subst hw2
  refine g_nt hn ?_
  refine g_or hn ?_
  refine g_mv hn ?_
  refine g_offA .nilIface hn ?_
  refine g_offA .nilIface hn ?_
  refine g_offA .nilIface hn ?_
  refine g_offA .nilIface hn ?_
  refine g_offA (.bool false) hn ?_
  refine g_or hn ?_
  refine fl_end ?_
  clear hn f0 f1 l0 l1 cF cT
  subst ha
  dsimp only [fr, cnd, Act.put, cond_true]
  simp only [List.setIfInBounds_toArray, List.set_cons_zero, List.set_cons_succ]

  go_wp2_with fail
  go_ret
  exact ⟨rfl, by first | exact hB | (rw [hb]; exact hB)⟩
set_option maxRecDepth 100000 in
set_option maxHeartbeats 4000000 in
theorem sn_bad3 (p : Nat) (x : Fl) (w : World) (hf : nodeB x.f = true) (ht : nodeB x.t = true) (hs : x.f = x.t) : Calls Try.prog 7 #[.pointer (some ⟨p, 0, none⟩), .agg x.parcel] w fun e w' => e = .returned (.int .i64 1) ∧ Below w.heap.size w w' := by
  have hX0 := blk_new w x.parcel 29
  have hB := b0 w (.cells x.parcel 29)
  have hzz : (w.alloc (.cells x.parcel 29)).heap.size = w.heap.size + 1 := by simp
  go_enter Try.func7, Try.ntmps7
  go_upto_region 1 with fail
  generalize (w.alloc (.cells x.parcel 29)) = W0 at hX0 hB hzz ⊢
  generalize hb : w.heap.size = b at hX0 hB hzz ⊢
  have f0 := pf0 W0 b
  have f1 := pf1 W0 b
  have l0 := ld_in (hX0.cell 0)
  have l1 := ld_in (hX0.cell 1)
  have cF := isNode_any x.f W0
  have cT := isNode_any x.t W0
  refine wp_region_lit ?_
  refine fl_start ?_
  generalize ha : Act.mk _ _ = a0
  have hn : a0.tmps.size = 26 := by rw [← ha]; kernel_rfl
  have h3 : (fr a0 []).eval (.tmp 3) = .pointer (some ⟨b, 0, none⟩) := by rw [← ha]; kernel_rfl
  refine fl_know hn rfl h3 ?_
  clear h3
  refine g_fd hn ?_
  refine g_ld hn ?_
  refine g_c1x en_spinney_air_isNode hn (R := fun v w2 => v = .bool true ∧ W0 = w2) (cF.mono fun _ _ ⟨he, hw⟩ => ⟨_, he, by rw [hf], hw.symm⟩) ?_
  rintro v w2 ⟨rfl, hw2⟩
  subst hw2
  refine g_nt hn ?_
  refine g_mv hn ?_
  refine g_fd hn ?_
  refine g_ld hn ?_
  refine g_c1x en_spinney_air_isNode hn (R := fun v w2 => v = .bool true ∧ W0 = w2) (cT.mono fun _ _ ⟨he, hw⟩ => ⟨_, he, by rw [ht], hw.symm⟩) ?_
  rintro v w2 ⟨rfl, hw2⟩
  subst hw2
  refine g_nt hn ?_
  refine g_or hn ?_
  refine g_mv hn ?_
  refine g_fd hn ?_
  refine g_ld hn ?_
  refine g_fd hn ?_
  refine g_ld hn ?_
  refine g_eql2 hn ?_
  refine g_or hn ?_
  refine fl_end ?_
  clear hn f0 f1 l0 l1 cF cT
  subst ha
  dsimp only [fr, cnd, Act.put, cond_true]
  simp only [List.setIfInBounds_toArray, List.set_cons_zero, List.set_cons_succ]
  simp only [hs, beq_self_eq_true]

  go_wp2_with fail
  go_ret
  exact ⟨rfl, by first | exact hB | (rw [hb]; exact hB)⟩
set_option maxRecDepth 100000 in
set_option maxHeartbeats 4000000 in
theorem sn_good (base p : Nat) (A : Option Addr) (n c : Nat) (l : List Fl) (x : Fl) (w : World) (hf : nodeB x.f = true) (ht : nodeB x.t = true) (hs : ¬ x.f = x.t) (h : AirM base p w A n c l) (h4 : n ≤ 400) (hx : FlIn w x) (hbw : base ≤ w.heap.size) : Calls Try.prog 7 #[.pointer (some ⟨p, 0, none⟩), .agg x.parcel] w fun e w' => (n = 400 → e = .returned (.int .i64 3) ∧ Below w.heap.size w w') ∧ (n < 400 → SendP base p A l n ⟨x.f, x.t, x.A, x.n, x.c, false, x.b⟩ w e w') := by
  have hX0 := blk_new w x.parcel 29
  have hB := b0 w (.cells x.parcel 29)
  have hzz : (w.alloc (.cells x.parcel 29)).heap.size = w.heap.size + 1 := by simp
  have hM0 := h.keep (b0 w (.cells x.parcel 29))
  have hx0 := hx.keep (b0 w (.cells x.parcel 29))
  go_enter Try.func7, Try.ntmps7
  go_upto_region 1 with fail
  generalize (w.alloc (.cells x.parcel 29)) = W0 at hX0 hB hzz hM0 hx0 ⊢
  generalize hb : w.heap.size = b at hX0 hB hzz hM0 hx0 ⊢
  have f0 := pf0 W0 b
  have f1 := pf1 W0 b
  have l0 := ld_in (hX0.cell 0)
  have l1 := ld_in (hX0.cell 1)
  have cF := isNode_any x.f W0
  have cT := isNode_any x.t W0
  have es : (x.f == x.t) = false := by rw [beq_eq_false_iff_ne]; exact hs
  have lp := ld_pc hX0
  have bd := bd_fl W0 x
  refine wp_region_lit ?_
  refine fl_start ?_
  generalize ha : Act.mk _ _ = a0
  have hn : a0.tmps.size = 26 := by rw [← ha]; kernel_rfl
  have h3 : (fr a0 []).eval (.tmp 3) = .pointer (some ⟨b, 0, none⟩) := by rw [← ha]; kernel_rfl
  refine fl_know hn rfl h3 ?_
  clear h3
  refine g_fd hn ?_
  refine g_ld hn ?_
  refine g_c1x en_spinney_air_isNode hn (R := fun v w2 => v = .bool true ∧ W0 = w2) (cF.mono fun _ _ ⟨he, hw⟩ => ⟨_, he, by rw [hf], hw.symm⟩) ?_
  rintro v w2 ⟨rfl, hw2⟩
  subst hw2
  refine g_nt hn ?_
  refine g_mv hn ?_
  refine g_fd hn ?_
  refine g_ld hn ?_
  refine g_c1x en_spinney_air_isNode hn (R := fun v w2 => v = .bool true ∧ W0 = w2) (cT.mono fun _ _ ⟨he, hw⟩ => ⟨_, he, by rw [ht], hw.symm⟩) ?_
  rintro v w2 ⟨rfl, hw2⟩
  subst hw2
  refine g_nt hn ?_
  refine g_or hn ?_
  refine g_mv hn ?_
  refine g_fd hn ?_
  refine g_ld hn ?_
  refine g_fd hn ?_
  refine g_ld hn ?_
  refine g_eql2 hn ?_
  refine g_or hn ?_
  refine fl_end ?_
  clear hn f0 f1 l0 l1 cF cT
  subst ha
  dsimp only [fr, cnd, Act.put, cond_true]
  simp only [List.setIfInBounds_toArray, List.set_cons_zero, List.set_cons_succ]
  simp only [es]
  have hbw0 : base ≤ W0.heap.size := by have := hB.size; omega
  have hx1 : FlIn W0 ⟨x.f, x.t, x.A, x.n, x.c, false, x.b⟩ := ⟨hx0.rd, hx0.len, hx0.nil, hx0.few⟩
  go_upto_region 3 with fail
  refine wp_region_lit ?_
  refine fl_start ?_
  generalize ha : Act.mk _ _ = a0
  have hn : a0.tmps.size = 26 := by rw [← ha]; kernel_rfl
  have h0 : (fr a0 []).eval (.tmp 0) = .pointer (some ⟨p, 0, none⟩) := by rw [← ha]; kernel_rfl
  refine fl_know hn rfl h0 ?_
  clear h0
  have h3 : (fr a0 [(0, true, .pointer (some ⟨p, 0, none⟩))]).eval (.tmp 3) = .pointer (some ⟨b, 0, none⟩) := by rw [← ha]; kernel_rfl
  refine fl_know hn rfl h3 ?_
  clear h3
  refine g_mv hn ?_
  refine g_ld hn ?_
  refine g_bd hn ?_ bd (hp := fun hk hg => by
    have e := lk_at hk (i := 23) rfl (fun _ => rfl) hg
    simp only [List.map_toArray, List.map_cons, List.map_nil]
    rw [e])
  refine g_c2x en_spinney_air_Air_send hn (R := fun v w2 => (n = 400 → v = .int .i64 3 ∧ Below W0.heap.size W0 w2) ∧ (n < 400 → v = .int .i64 0 ∧ SendP base p A l n ⟨x.f, x.t, x.A, x.n, x.c, false, x.b⟩ W0 (.returned v) w2)) ?_ ?_
  · rcases Nat.lt_or_ge n 400 with g | g
    · refine (send_any base p A n c l _ W0 hM0 g hx1 hbw0).mono ?_
      rintro e w2 ⟨A1, c1, A2, c2, he, hA⟩
      exact ⟨_, he, fun e => by omega, fun _ => ⟨rfl, A1, c1, A2, c2, rfl, hA⟩⟩
    · have e4 : n = 400 := by omega
      subst e4
      exact (send_full base p A c l _ W0 hM0).mono fun e w2 ⟨he, hb2⟩ => ⟨_, he, fun _ => ⟨rfl, hb2⟩, fun h => absurd h (by omega)⟩
  rintro v w2 ⟨h1, h2⟩
  refine g_as hn ?_
  refine fl_end ?_
  clear hn lp bd
  subst ha
  dsimp only [fr, cnd, Act.put, cond_true]
  simp only [List.setIfInBounds_toArray, List.set_cons_zero, List.set_cons_succ]
  have hB0 : Below w.heap.size w W0 := by first | exact hB | (rw [hb]; exact hB)
  go_wp2_with fail
  go_ret
  refine ⟨fun g => ?_, fun g => ?_⟩
  · obtain ⟨rfl, hb2⟩ := h1 g
    exact ⟨rfl, hB0.trans (hb2.mono hB0.size)⟩
  · obtain ⟨rfl, A1, c1, A2, c2, -, hA⟩ := h2 g
    exact ⟨A1, c1, A2, c2, rfl, (AirS.same h hB0).trans hA⟩
end Go.Proofs.Ytdfifcgpjeojlaa

namespace Go.Proofs.Ytdfifcgpjeojlaa
open Go.RowKit


theorem fix (W : World) (ad : Addr) (n c k : Nat) (h : k < n) : (Instr.indexAt 55 (.slice (some ad) n c) (.int .i64 (k : Int))).run Try.prog W = .ok (.pointer (some (ad.add (k * 4)))) W := by
  have i1 : (0 : Int) ≤ (k : Int) := by omega
  have i2 : (k : Int) < (n : Int) := by omega
  go_simp
theorem fld {W : World} {ad : Addr} {k : Nat} {x : Fl} (hc : ∀ j v, x.cells[j]? = some v → W.cell? (ad.add (k * 4 + j)) = some v) : (Instr.loadAt 62 (.pointer (some (ad.add (k * 4))))).run Try.prog W = .ok (.agg x.cells) W := by
  obtain ⟨f, t, A, n, c, u, b⟩ := x
  obtain ⟨h0, h1⟩ := celX hc
  have c0 : W.cell? (ad.add (k * 4)) = some (.int .i64 f) := h0 _ rfl
  have c1 : W.cell? ⟨(ad.add (k * 4)).block, (ad.add (k * 4)).off + 1, none⟩ = some (.int .i64 t) := h1 0 _ rfl
  have c2 : W.cell? ⟨(ad.add (k * 4)).block, (ad.add (k * 4)).off + 2, none⟩ = some (.slice A n c) := h1 1 _ rfl
  have c3 : W.cell? ⟨(ad.add (k * 4)).block, (ad.add (k * 4)).off + 3, none⟩ = some (.bool u) := h1 2 _ rfl
  clear hc h0 h1
  go_simp
theorem OwnB.nilOf {base n c : Nat} {W : World} {l : List UInt8} (h : OwnB base W none n c l) : n = 0 ∧ c = 0 := by
  rcases h.2 with ⟨hv, _⟩ | ⟨g, cap, cur, hv, _, hg, _⟩
  · injection hv with _ h1 h2
    exact ⟨h1, h2⟩
  · injection hv with hv
    cases hv
theorem AirM.flIn {base p : Nat} {W : World} {A : Option Addr} {n c : Nat} {l : List Fl} (h : AirM base p W A n c l) {x : Fl} (hx : x ∈ l) (hm : x.n ≤ 1000000) : FlIn W x := ⟨(h.byt x hx).rd, (h.byt x hx).len, fun e => by
  have h1 := h.byt x hx
  rw [e] at h1
  exact h1.nilOf, hm⟩
/-- The i-th in memory. -/
theorem AirM.at {base p : Nat} {W : World} {A : Option Addr} {n c : Nat} {l : List Fl} (h : AirM base p W A n c l) {k : Nat} (hk : k < n) : ∃ ad x, A = some ad ∧ l[k]? = some x ∧ ∀ j v, x.cells[j]? = some v → W.cell? (ad.add (k * 4 + j)) = some v := by
  have hl : l.length = n := by
    have := h.row.len
    simpa using this
  have hx : l[k]? = some l[k] := List.getElem?_eq_getElem (by omega)
  obtain ⟨ad, hA, _, hc⟩ := h.row.rd k (l[k]).cells (by rw [List.getElem?_map, hx]; rfl)
  exact ⟨ad, _, hA, hx, hc⟩
theorem modA_lt (i : Int) {n : Nat} (h : 0 < n) : modA i n < n := Nat.mod_lt _ h
set_option maxRecDepth 100000 in
set_option maxHeartbeats 4000000 in
theorem airDouble_none (base p : Nat) (A : Option Addr) (c : Nat) (l : List Fl) (i : Int) (w : World) (h : AirM base p w A 0 c l) : Calls Try.prog 8 #[.pointer (some ⟨p, 0, none⟩), .int .i64 i] w fun e w' => e = .returned (.int .i64 5) ∧ w' = w := by
  have cP := place_none base p A c l i w h
  clear h
  go_enter Try.func8, Try.ntmps8
  go_wp2_with fail
  refine cP.mono ?_
  rintro e w2 ⟨rfl, rfl⟩
  go_wp2_with fail
  go_ret
  exact ⟨rfl, rfl⟩
set_option maxRecDepth 100000 in
set_option maxHeartbeats 4000000 in
theorem airDouble_any (base p : Nat) (A : Option Addr) (n c : Nat) (l : List Fl) (i : Int) (w : World) (h : AirM base p w A n c l) (h0 : 0 < n) (h4 : n ≤ 400) (hm : ∀ x, x ∈ l → x.n ≤ 1000000) (hbw : base ≤ w.heap.size) : Calls Try.prog 8 #[.pointer (some ⟨p, 0, none⟩), .int .i64 i] w fun e w' => ∃ x, l[modA i n]? = some x ∧ (n = 400 → e = .returned (.int .i64 3) ∧ Below w.heap.size w w') ∧ (n < 400 → SendP base p A l n x w e w') := by
  have cP := place_some base p A n c l i w h h0 (by omega)
  have hlt := modA_lt i h0
  obtain ⟨ad, x, rfl, hx, hc⟩ := h.at hlt
  have hxm := List.mem_of_getElem? hx
  have hin := h.flIn hxm (hm x hxm)
  have l0 := ld_air h.blk
  have f0 := far0 w p
  have l1 := fld hc
  have x1 := fix w ad n c _ hlt
  go_enter Try.func8, Try.ntmps8
  go_upto_region 1 with fail
  refine wp_region_lit ?_
  refine fl_start ?_
  generalize ha : Act.mk _ _ = a0
  have hn : a0.tmps.size = 25 := by rw [← ha]; kernel_rfl
  have h0 : (fr a0 []).eval (.tmp 0) = .pointer (some ⟨p, 0, none⟩) := by rw [← ha]; kernel_rfl
  refine fl_know hn rfl h0 ?_
  clear h0
  have h1 : (fr a0 [(0, true, .pointer (some ⟨p, 0, none⟩))]).eval (.tmp 1) = .int .i64 i := by rw [← ha]; kernel_rfl
  refine fl_know hn rfl h1 ?_
  clear h1
  refine g_mv hn ?_
  refine g_mv hn ?_
  refine g_c2x en_spinney_air_Air_place hn (R := fun v w2 => v = .tuple #[.int .i64 (modA i n : Nat), .int .i64 0] ∧ w = w2) (cP.mono fun _ _ ⟨he, hw⟩ => ⟨_, he, rfl, hw.symm⟩) ?_
  rintro v w2 ⟨rfl, hw2⟩
  subst hw2
  refine g_mv hn ?_
  refine g_ex hn ?_
  refine g_ex hn ?_
  refine g_as hn ?_
  refine g_as hn ?_
  refine fl_end ?_
  clear hn cP
  subst ha
  dsimp only [fr, cnd, Act.put, cond_true]
  simp only [List.setIfInBounds_toArray, List.set_cons_zero, List.set_cons_succ]
  go_upto_region 4 with fail
  refine wp_region_lit ?_
  refine fl_start ?_
  generalize ha : Act.mk _ _ = a0
  have hn : a0.tmps.size = 25 := by rw [← ha]; kernel_rfl
  have h0 : (fr a0 []).eval (.tmp 0) = .pointer (some ⟨p, 0, none⟩) := by rw [← ha]; kernel_rfl
  refine fl_know hn rfl h0 ?_
  clear h0
  have h5 : (fr a0 [(0, true, .pointer (some ⟨p, 0, none⟩))]).eval (.tmp 5) = .int .i64 (modA i n : Nat) := by rw [← ha]; kernel_rfl
  refine fl_know hn rfl h5 ?_
  clear h5
  refine g_mv hn ?_
  refine g_mv hn ?_
  refine g_nc hn ?_
  refine g_fd hn ?_
  refine g_ld hn ?_
  refine g_mv hn ?_
  refine g_ix hn ?_
  refine g_ld hn ?_
  refine g_c2x en_spinney_air_Air_send hn (R := fun v w2 => (n = 400 → v = .int .i64 3 ∧ Below w.heap.size w w2) ∧ (n < 400 → v = .int .i64 0 ∧ SendP base p (some ad) l n x w (.returned v) w2)) ?_ ?_
  · rcases Nat.lt_or_ge n 400 with g | g
    · refine (send_any base p (some ad) n c l x w h g hin hbw).mono ?_
      rintro e w2 ⟨A1, c1, A2, c2, he, hA⟩
      exact ⟨_, he, fun e => by omega, fun _ => ⟨rfl, A1, c1, A2, c2, rfl, hA⟩⟩
    · have e4 : n = 400 := by omega
      subst e4
      exact (send_full base p (some ad) c l x w h).mono fun e w2 ⟨he, hb2⟩ => ⟨_, he, fun _ => ⟨rfl, hb2⟩, fun h => absurd h (by omega)⟩
  rintro v w2 ⟨h1, h2⟩
  refine g_as hn ?_
  refine fl_end ?_
  clear hn l0 f0 l1 x1
  subst ha
  dsimp only [fr, cnd, Act.put, cond_true]
  simp only [List.setIfInBounds_toArray, List.set_cons_zero, List.set_cons_succ]
  go_wp2_with fail
  go_ret
  refine ⟨x, hx, fun g => ?_, fun g => ?_⟩
  · obtain ⟨rfl, hb2⟩ := h1 g
    exact ⟨rfl, hb2⟩
  · obtain ⟨rfl, A1, c1, A2, c2, -, hA⟩ := h2 g
    exact ⟨A1, c1, A2, c2, rfl, hA⟩
end Go.Proofs.Ytdfifcgpjeojlaa

namespace Go.Proofs.Ytdfifcgpjeojlaa
open Go.RowKit

section
variable {P : Program} {l : List Oper} {Q : Exit → Act → World → Prop} {rest : List Oper} {a0 : Act} {L : List (Nat × Bool × Value)} {w : World}
theorem fl_valA {o : Oper} {v : Value} {w2 : World} (ho : o.dst = none) (hw : wtG l L o.guard = some true)
    (hr : (∀ p, p ∈ L → p.1 < a0.tmps.size) → (execOp (fr a0 L).eval o).run P w = .ok (.value v) w2) (h : FL P l Q rest a0 L w2) : FL P l Q (o :: rest) a0 L w := by
  refine ⟨fun hk => ?_⟩
  refine wpList_step fun K hK => ?_
  rw [wt_is hk hw]
  show o.wp P (fr a0 L) w K Q
  unfold Oper.wp
  rw [hr hk]
  exact hK _ _ (by rw [ho]; exact h.go hk)
theorem x_clrA {x : Operand} {ts : Array TypeId} {ty : TypeId} {p : String} {af : Array Edge} {gd : Option (Nat × Bool)} {ρ : Operand → Value} {v u : Value} {w2 : World} (h1 : ρ x = v) (hr : (Builtin.clear_ ts ty #[v]).run P w = .ok u w2) : (execOp ρ ⟨none, .call { callee := .builtin .clear, args := #[x], argTypes := ts }, ty, p, af, gd⟩).run P w = .ok (.value u) w2 := by
  unfold execOp
  dsimp only
  go_simp
theorem x_slA {ρ : Operand → Value} {d : Option Tmp} {ty : TypeId} {p : String} {af : Array Edge} {gd : Option (Nat × Bool)} {i j k : Nat} {t : TypeId} {vi vj vk v : Value} (h : ρ (.tmp i) = vi) (h2 : ρ (.tmp j) = vj) (h3 : ρ (.tmp k) = vk) (hr : (Instr.sliceAt t vi (some vj) (some vk) none).run P w = .ok v w) : (execOp ρ ⟨d, .slice t (.tmp i) (some (.tmp j)) (some (.tmp k)) none, ty, p, af, gd⟩).run P w = .ok (.value v) w := by
  unfold execOp
  dsimp only
  rw [h]; simp only [Option.map_none, Option.map_some, h2, h3, Sem.run_bind, hr]; rfl
theorem x_slB {ρ : Operand → Value} {d : Option Tmp} {ty : TypeId} {p : String} {af : Array Edge} {gd : Option (Nat × Bool)} {i j k m : Nat} {t : TypeId} {vi vj vk vm v : Value} (h : ρ (.tmp i) = vi) (h2 : ρ (.tmp j) = vj) (h3 : ρ (.tmp k) = vk) (h4 : ρ (.tmp m) = vm) (hr : (Instr.sliceAt t vi (some vj) (some vk) (some vm)).run P w = .ok v w) : (execOp ρ ⟨d, .slice t (.tmp i) (some (.tmp j)) (some (.tmp k)) (some (.tmp m)), ty, p, af, gd⟩).run P w = .ok (.value v) w := by
  unfold execOp
  dsimp only
  rw [h]; simp only [Option.map_some, h2, h3, h4, Sem.run_bind, hr]; rfl
end
theorem addA (g k : Nat) : (⟨g, 0, none⟩ : Addr).add k = ⟨g, k, none⟩ := by
  unfold Addr.add
  split
  · next h => rw [h]
  · rw [Nat.zero_add]
theorem setL_loA : ∀ (vs : List Value) (j : Nat) (cs : Array Value) (k : Nat), k < j → (setL cs j vs)[k]? = cs[k]?
  | [], _, _, _, _ => rfl
  | v :: r, j, cs, k, h => by
    show (setL (cs.setIfInBounds j v) (j + 1) r)[k]? = _
    rw [setL_loA r (j + 1) _ k (by omega), Array.getElem?_setIfInBounds_ne (by omega)]
theorem setL_szA : ∀ (vs : List Value) (j : Nat) (cs : Array Value), (setL cs j vs).size = cs.size
  | [], _, _ => rfl
  | v :: r, j, cs => by
    show (setL (cs.setIfInBounds j v) (j + 1) r).size = _
    rw [setL_szA r, Array.size_setIfInBounds]
theorem setL_take (vs : List Value) (j : Nat) (cs : Array Value) : (setL cs j vs).toList.take j = cs.toList.take j := by
  apply List.ext_getElem?
  intro i
  rw [List.getElem?_take, List.getElem?_take]
  split
  · next h => rw [Array.getElem?_toList, Array.getElem?_toList, setL_loA _ _ _ _ h]
  · rfl
theorem Szd.takeA {z : Nat} {l : List (Array Value)} (h : Szd z l) (k : Nat) : Szd z (l.take k) := fun cs hc => h cs (List.mem_of_mem_take hc)
theorem Szd.dropA {z : Nat} {l : List (Array Value)} (h : Szd z l) (k : Nat) : Szd z (l.drop k) := fun cs hc => h cs (List.mem_of_mem_drop hc)
theorem celV_cut (l : List (Array Value)) (k : Nat) : celV l = celV (l.take k) ++ celV (l.drop k) := by
  show _ = (l.take k).flatMap (·.toList) ++ (l.drop k).flatMap (·.toList)
  rw [← List.flatMap_append, List.take_append_drop]
theorem celV_take {z : Nat} {l : List (Array Value)} (h : Szd z l) {k : Nat} (hk : k ≤ l.length) : (celV l).take (k * z) = celV (l.take k) := by
  have hl : (celV (l.take k)).length = k * z := by rw [celV_len _ (h.takeA k), List.length_take, Nat.min_eq_left hk]
  rw [celV_cut l k]
  exact List.take_left' hl
theorem OwnX.headA {t : TypeId} {z base g n c : Nat} {W : World} {l : List (Array Value)} (h : OwnX t z base W (some ⟨g, 0, none⟩) n c l) {k : Nat} (hk : k ≤ n) : W.ownsRow base t z (.slice (some ⟨g, 0, none⟩) k c) k (celV (l.take k)) := by
  have hl := h.len
  have ht := celV_take h.2.1 (k := k) (by omega)
  refine ⟨by rw [celV_len _ (h.2.1.takeA k), List.length_take, Nat.min_eq_left (by omega)], ?_⟩
  rcases h.1.2 with ⟨hv, _⟩ | ⟨g', cap, cur, hv, hb, hg, h1, h2, h3, h4⟩
  · cases hv
  · injection hv with e1 _ e2
    injection e1 with e1
    injection e1 with e1
    subst e1 e2
    refine .inr ⟨g, c, cur, rfl, hb, hg, by omega, h2, h3, ?_⟩
    rw [← ht, ← h4, List.take_take, Nat.min_eq_left (Nat.mul_le_mul_right _ hk)]
theorem OwnX.atZero {t : TypeId} {z base n c : Nat} {W : World} {ad : Addr} {l : List (Array Value)} (h : OwnX t z base W (some ad) n c l) : ∃ g, ad = ⟨g, 0, none⟩ := by
  rcases h.1.2 with ⟨hv, _⟩ | ⟨g', cap, cur, hv, hb, hg, h1, h2, h3, h4⟩
  · cases hv
  · injection hv with e1
    injection e1 with e1
    exact ⟨g', e1⟩
theorem own_cut {t : TypeId} {z base g n c : Nat} {W W' : World} {xs : List Value} {cur : Array Value} {vs : List Value} (h : W.ownsRow base t z (.slice (some ⟨g, 0, none⟩) n c) n xs) (hX : Blk W g cur t) (hX2 : Blk W' g (setL cur (n * z) vs) t) : W'.ownsRow base t z (.slice (some ⟨g, 0, none⟩) n c) n xs := by
  refine ⟨h.1, ?_⟩
  rcases h.2 with ⟨hv, _⟩ | ⟨g', cap, cur', hv, hb, hg, h1, h2, h3, h4⟩
  · cases hv
  · injection hv with e1 _ e2
    injection e1 with e1
    injection e1 with e1
    subst e1 e2
    have e : cur' = cur := by
      have h5 := hg.symm.trans hX
      injection h5 with h5
      injection h5
    subst e
    exact .inr ⟨g, c, _, rfl, hb, hX2, h1, h2, by rw [setL_szA]; exact h3, by rw [setL_take]; exact h4⟩
theorem fsl_u : Try.prog.underlying 55 = some (.slice (Try.prog.elem 55)) := by kernel_rfl
theorem fsl_z (W : World) : (sizeOf (Try.prog.elem 55)).run Try.prog W = .ok 4 W := by kernel_rfl
theorem fsl_lo (W : World) (g n c k : Nat) (h : k ≤ n) (hc : n ≤ c) : ∃ a', (Instr.sliceAt 55 (.slice (some ⟨g, 0, none⟩) n c) (some (.int .i64 (k : Int))) none none).run Try.prog W = .ok (.slice (some a') (n - k) (c - k)) W ∧ (k < n → a' = ⟨g, k * 4, none⟩) := by
  rw [run_sliceAt_slice W _ _ _ _ _ fsl_u, run_slice_l W _ _ _ _ fsl_u _ _ (by omega) (by omega), fsl_z]
  by_cases e : c = k
  · refine ⟨⟨g, 0, none⟩, ?_, fun h2 => by omega⟩
    show Result.ok (sliced _ _ _ _ _) W = _
    unfold sliced
    rw [Int.toNat_natCast, if_pos e]
  · refine ⟨⟨g, k * 4, none⟩, ?_, fun _ => rfl⟩
    show Result.ok (sliced _ _ _ _ _) W = _
    unfold sliced
    rw [Int.toNat_natCast, if_neg e, Option.map_some, addA]
theorem fsl_hi (W : World) (g n c k : Nat) (h : k ≤ n) (hc : n ≤ c) : (Instr.sliceAt 55 (.slice (some ⟨g, 0, none⟩) n c) none (some (.int .i64 (k : Int))) none).run Try.prog W = .ok (.slice (some ⟨g, 0, none⟩) k c) W := by
  have e := addA g 0
  rw [run_sliceAt_slice W _ _ _ _ _ fsl_u, run_slice_h W _ _ _ _ fsl_u _ _ (by omega) (by omega), fsl_z]
  show Result.ok (sliced _ _ _ _ _) W = _
  unfold sliced
  rw [Int.toNat_natCast, Option.map_some, Nat.zero_mul, e, ite_self, Nat.sub_zero, Nat.sub_zero]
theorem fsl_lh (W : World) (g n c j k : Nat) (h : j < k) (hc : k ≤ c) : (Instr.sliceAt 55 (.slice (some ⟨g, 0, none⟩) n c) (some (.int .i64 (j : Int))) (some (.int .i64 (k : Int))) none).run Try.prog W = .ok (.slice (some ⟨g, j * 4, none⟩) (k - j) (c - j)) W := by
  rw [run_sliceAt_slice W _ _ _ _ _ fsl_u, run_slice_lh W _ _ _ _ fsl_u _ _ _ _ (by omega) (by omega) (by omega), fsl_z]
  show Result.ok (sliced _ _ _ _ _) W = _
  unfold sliced
  rw [Int.toNat_natCast, Int.toNat_natCast, if_neg (by omega), Option.map_some, addA]
theorem fsl_lhm (W : World) (g n c j k m : Nat) (h : j ≤ k) (h2 : k ≤ m) (hc : m ≤ c) : ∃ v, (Instr.sliceAt 55 (.slice (some ⟨g, 0, none⟩) n c) (some (.int .i64 (j : Int))) (some (.int .i64 (k : Int))) (some (.int .i64 (m : Int)))).run Try.prog W = .ok v W := by
  rw [run_sliceAt_slice W _ _ _ _ _ fsl_u, run_slice_lhm W _ _ _ _ fsl_u _ _ _ _ _ _ (by omega) (by omega) (by omega) (by omega), fsl_z]
  exact ⟨_, rfl⟩
abbrev zFl : Array Value := #[.int .i64 0, .int .i64 0, .slice none 0 0, .bool false]
theorem run_clrF (W : World) (g o n c : Nat) (cur : Array Value) (ty : TypeId) (hX : Blk W g cur 62) (hs : o + n * 4 ≤ cur.size) : ∃ (W2 : World) (vs : List Value), (Builtin.clear_ #[55] ty #[.slice (some ⟨g, o, none⟩) n c]).run Try.prog W = .ok (.tuple #[]) W2 ∧ Only1 g W W2 ∧ Blk W2 g (setL cur o vs) 62 := by
  have hu : Try.prog.underlying 55 = some (.slice 62) := by kernel_rfl
  cases n with
  | zero =>
    refine ⟨W, [], ?_, Only1.refl _ _, hX⟩
    simp [Builtin.clear_, run_underlying hu]
  | succ m =>
    have hv : ∀ w, (zeroValue 62).run Try.prog w = .ok (.agg zFl) w := fun w => by kernel_rfl
    have hz : (Value.agg zFl).cells = zFl := rfl
    have h66 : zFl.size = 4 := rfl
    have h1 : zFl.all (·.oneCell') = true := by simp [Value.oneCell']
    generalize zFl = z at hv hz h66 h1
    have hl : (Builtin.zeroCells z (m + 1)).toList.length = (m + 1) * 4 := by simp [Builtin.zeroCells, h66]
    have h2 : ∀ v, v ∈ (Builtin.zeroCells z (m + 1)).toList → v.oneCell' = true := fun v hv2 => by
      simp only [Builtin.zeroCells, Array.toList_map, List.mem_map] at hv2
      obtain ⟨i, _, rfl⟩ := hv2
      have hi : i % z.size < z.size := Nat.mod_lt _ (by omega)
      rw [getElem!_pos z _ hi]
      exact (Array.all_eq_true_iff_forall_mem.1 h1) _ (Array.getElem_mem hi)
    have hst := run_storeCells_cells (P := Try.prog) g o (Builtin.zeroCells z (m + 1)).toList 0 W (fun j hj => by rw [hX.cell, Array.getElem?_eq_getElem (by omega)]; rfl) (fun j hj => hX.free _) h2
    simp only [Nat.add_zero] at hst
    refine ⟨W.setCells g o (Builtin.zeroCells z (m + 1)).toList, (Builtin.zeroCells z (m + 1)).toList, ?_, only_cells g _ _ W, Blk.cells _ _ W cur hX⟩
    simp [Builtin.clear_, run_underlying hu, hv, hz, hst]
/-- What Delete answers. -/
def DelP (g base n c k : Nat) (l : List (Array Value)) (w : World) (e : Ending) (w' : World) : Prop := e = .returned (.slice (some ⟨g, 0, none⟩) (n - 1) c) ∧ OwnX tFl 4 base w' (some ⟨g, 0, none⟩) (n - 1) c (l.eraseIdx k) ∧ w.grownBy w' (some g)
set_option maxRecDepth 100000 in
set_option maxHeartbeats 4000000 in
theorem delete_any (g base n c k : Nat) (l : List (Array Value)) (w : World) (h : OwnX tFl 4 base w (some ⟨g, 0, none⟩) n c l) (hk : k < n) (h1c : ∀ cs, cs ∈ l → cs.all (·.oneCell') = true) : Calls Try.prog 25 #[.slice (some ⟨g, 0, none⟩) n c, .int .i64 (k : Int), .int .i64 ((k + 1 : Nat) : Int)] w (DelP g base n c k l w) := by
  have hcap := h.cap
  have hlen := h.len
  have es : ((k : Int) == ((k + 1 : Nat) : Int)) = false := by rw [beq_eq_false_iff_ne]; omega
  obtain ⟨v3, q0⟩ := fsl_lhm w g n c k (k + 1) n (by omega) (by omega) hcap.1
  go_enter Try.func25, Try.ntmps25
  go_upto_region 1 with fail
  refine wp_region_lit ?_
  refine fl_start ?_
  generalize ha : Act.mk _ _ = a0
  have hn : a0.tmps.size = 33 := by rw [← ha]; kernel_rfl
  have h0 : (fr a0 []).eval (.tmp 0) = .slice (some ⟨g, 0, none⟩) n c := by rw [← ha]; kernel_rfl
  refine fl_know hn rfl h0 ?_
  clear h0
  have h1 : (fr a0 [(0, true, .slice (some ⟨g, 0, none⟩) n c)]).eval (.tmp 1) = .int .i64 (k : Int) := by rw [← ha]; kernel_rfl
  refine fl_know hn rfl h1 ?_
  clear h1
  have h2 : (fr a0 [(1, true, .int .i64 (k : Int)), (0, true, .slice (some ⟨g, 0, none⟩) n c)]).eval (.tmp 2) = .int .i64 ((k + 1 : Nat) : Int) := by rw [← ha]; kernel_rfl
  refine fl_know hn rfl h2 ?_
  clear h2
  refine g_mv hn ?_
  refine g_mv hn ?_
  refine g_mv hn ?_
  refine g_mv hn ?_
  refine g_ln hn ?_
  refine fl_op (v := v3) (g := true) hn rfl rfl rfl (fun hk hg => x_slB (lk_at hk (i := 8) rfl (fun _ => rfl) rfl) (lk_at hk (i := 9) rfl (fun _ => rfl) rfl) (lk_at hk (i := 10) rfl (fun _ => rfl) rfl) (lk_at hk (i := 12) rfl (fun _ => rfl) rfl) q0) ?_
  refine fl_end ?_
  clear hn q0
  subst ha
  dsimp only [fr, cnd, Act.put, cond_true]
  simp only [List.setIfInBounds_toArray, List.set_cons_zero, List.set_cons_succ]
  go_upto_region 2 with fail
  refine wp_region_lit ?_
  refine fl_start ?_
  generalize ha : Act.mk _ _ = a0
  have hn : a0.tmps.size = 33 := by rw [← ha]; kernel_rfl
  have h1 : (fr a0 []).eval (.tmp 1) = .int .i64 (k : Int) := by rw [← ha]; kernel_rfl
  refine fl_know hn rfl h1 ?_
  clear h1
  have h2 : (fr a0 [(1, true, .int .i64 (k : Int))]).eval (.tmp 2) = .int .i64 ((k + 1 : Nat) : Int) := by rw [← ha]; kernel_rfl
  refine fl_know hn rfl h2 ?_
  clear h2
  refine g_mv hn ?_
  refine g_mv hn ?_
  refine g_eql2 hn ?_
  refine fl_end ?_
  clear hn
  subst ha
  dsimp only [fr, cnd, Act.put, cond_true]
  simp only [List.setIfInBounds_toArray, List.set_cons_zero, List.set_cons_succ]
  simp only [es]
  go_upto_region 4 with fail
  refine wp_region_lit ?_
  refine fl_start ?_
  generalize ha : Act.mk _ _ = a0
  have hn : a0.tmps.size = 33 := by rw [← ha]; kernel_rfl
  have h0 : (fr a0 []).eval (.tmp 0) = .slice (some ⟨g, 0, none⟩) n c := by rw [← ha]; kernel_rfl
  refine fl_know hn rfl h0 ?_
  clear h0
  refine g_mv hn ?_
  refine g_ln hn ?_
  refine g_as hn ?_
  refine fl_end ?_
  clear hn
  subst ha
  dsimp only [fr, cnd, Act.put, cond_true]
  simp only [List.setIfInBounds_toArray, List.set_cons_zero, List.set_cons_succ]
  obtain ⟨j0, hj0, hj1, hj2, hj3⟩ := info_parts flEl_info
  have q2 : ∀ W : World, True → (Instr.sliceAt 55 (.slice (some ⟨g, 0, none⟩) n c) none (some (.int .i64 (k : Int))) none).run Try.prog W = .ok (.slice (some ⟨g, 0, none⟩) k c) W := fun W _ => fsl_hi W g n c k (by omega) hcap.1
  obtain ⟨a', hlo⟩ : ∃ a', ∀ W : World, (Instr.sliceAt 55 (.slice (some ⟨g, 0, none⟩) n c) (some (.int .i64 ((k + 1 : Nat) : Int))) none none).run Try.prog W = .ok (.slice (some a') (n - (k + 1)) (c - (k + 1))) W ∧ (k + 1 < n → a' = ⟨g, (k + 1) * 4, none⟩) := by
    by_cases e : k + 1 < n
    · refine ⟨⟨g, (k + 1) * 4, none⟩, fun W => ?_⟩
      obtain ⟨a', h1, h2⟩ := fsl_lo W g n c (k + 1) (by omega) hcap.1
      have := h2 e
      subst this
      exact ⟨h1, fun _ => rfl⟩
    · by_cases e2 : c = k + 1
      · refine ⟨⟨g, 0, none⟩, fun W => ⟨?_, fun h2 => absurd h2 e⟩⟩
        rw [run_sliceAt_slice W _ _ _ _ _ fsl_u, run_slice_l W _ _ _ _ fsl_u _ _ (by omega) (by omega), fsl_z]
        show Result.ok (sliced _ _ _ _ _) W = _
        unfold sliced
        rw [Int.toNat_natCast, if_pos e2]
      · refine ⟨⟨g, (k + 1) * 4, none⟩, fun W => ⟨?_, fun _ => rfl⟩⟩
        rw [run_sliceAt_slice W _ _ _ _ _ fsl_u, run_slice_l W _ _ _ _ fsl_u _ _ (by omega) (by omega), fsl_z]
        show Result.ok (sliced _ _ _ _ _) W = _
        unfold sliced
        rw [Int.toNat_natCast, if_neg e2, Option.map_some, addA]
  have q3 : ∀ W : World, True → (Instr.sliceAt 55 (.slice (some ⟨g, 0, none⟩) n c) (some (.int .i64 ((k + 1 : Nat) : Int))) none none).run Try.prog W = .ok (.slice (some a') (n - (k + 1)) (c - (k + 1))) W := fun W _ => (hlo W).1
  have hnews : ∀ j u, (celV (l.drop (k + 1)))[j]? = some u → w.drew.cell? (a'.add j) = some u := by
    intro j u hu
    have hkn : k + 1 < n := by
      rcases Nat.lt_or_ge (k + 1) n with e | e
      · exact e
      · rw [List.drop_eq_nil_of_le (by omega)] at hu
        simp at hu
    rw [(hlo w).2 hkn]
    have e1 : (⟨g, (k + 1) * 4, none⟩ : Addr).add j = (⟨g, 0, none⟩ : Addr).add ((k + 1) * 4 + j) := by
      rw [← addA g ((k + 1) * 4), add_add']
    rw [e1]
    refine h.1.cells (g := g) rfl _ _ ?_
    rw [celV_cut l (k + 1), List.getElem?_append_right (by rw [celV_len _ (h.2.1.takeA _), List.length_take, Nat.min_eq_left (by omega)]; omega), celV_len _ (h.2.1.takeA _), List.length_take, Nat.min_eq_left (by omega)]
    rw [show (k + 1) * 4 + j - (k + 1) * 4 = j by omega]
    exact hu
  have hone : ∀ u, u ∈ celV (l.drop (k + 1)) → u.oneCell' = true := by
    intro u hu
    obtain ⟨cs, hcs, hu⟩ := List.mem_flatMap.1 hu
    have h2 := h1c cs (List.mem_of_mem_drop hcs)
    rw [Array.all_eq_true'] at h2
    exact h2 u (by simpa using hu)
  have hl2 : (celV (l.drop (k + 1))).length = (n - (k + 1)) * 4 := by rw [celV_len _ (h.2.1.dropA _), List.length_drop, hlen]
  obtain ⟨w5, hr5, hO5, hg5⟩ := run_append_fits (P := Try.prog) (w := w.drew) base 55 55 62 j0 4 rfl hj0 hj2 g k c (celV (l.take k)) (h.headA (by omega)) a' (n - (k + 1)) (c - (k + 1)) (celV (l.drop (k + 1))) hl2 hnews hone (by omega)
  go_upto_region 5 with fail
  refine fh_start (S := fun _ => True) (by kernel_rfl) (trivial) (fun hS => ?_)
  generalize ha : Act.mk _ _ = a0
  have hn : a0.tmps.size = 33 := by rw [← ha]; kernel_rfl
  have h0 : (fr a0 []).eval (.tmp 0) = .slice (some ⟨g, 0, none⟩) n c := by rw [← ha]; kernel_rfl
  refine fh_know hn rfl h0 ?_
  clear h0
  have h1 : (fr a0 [(0, true, .slice (some ⟨g, 0, none⟩) n c)]).eval (.tmp 1) = .int .i64 (k : Int) := by rw [← ha]; kernel_rfl
  refine fh_know hn rfl h1 ?_
  clear h1
  have h2 : (fr a0 [(1, true, .int .i64 (k : Int)), (0, true, .slice (some ⟨g, 0, none⟩) n c)]).eval (.tmp 2) = .int .i64 ((k + 1 : Nat) : Int) := by rw [← ha]; kernel_rfl
  refine fh_know hn rfl h2 ?_
  clear h2
  refine h_mv 0 hn trivial ?_
  refine h_mv 1 hn trivial ?_
  refine h_op 2 hn trivial (fun W hW hk => x_shiC (lk_at hk (i := 20) rfl (fun _ => rfl) rfl) (lk_at hk (i := 21) rfl (fun _ => rfl) rfl) (q2 W trivial)) ?_
  refine h_mv 3 hn trivial ?_
  refine h_mv 4 hn trivial ?_
  refine h_op 5 hn trivial (fun W hW hk => x_sloC (lk_at hk (i := 23) rfl (fun _ => rfl) rfl) (lk_at hk (i := 24) rfl (fun _ => rfl) rfl) (q3 W trivial)) ?_
  refine fh_valx 6 (d := 26) hn rfl (fun hk => x_ap (lk_at hk (i := 22) rfl (fun _ => rfl) rfl) (lk_at hk (i := 25) rfl (fun _ => rfl) rfl) hr5) trivial ?_ rfl rfl (by kernel_rfl) rfl
  refine h_as 7 hn trivial ?_
  refine fh_end (by kernel_rfl) ?_
  clear hn q2 q3 hlo hnews hone hr5
  subst ha
  dsimp only [fr, cnd, Act.put, cond_true]
  simp only [List.setIfInBounds_toArray, List.set_cons_zero, List.set_cons_succ]
  have e5 : k + (n - (k + 1)) = n - 1 := by omega
  rw [e5] at hO5
  simp only [e5]
  have hX5 : ∃ cur, Blk w5 g cur 62 ∧ cur.size = c * 4 := by
    rcases hO5.2 with ⟨hv, _⟩ | ⟨g', cap, cur, hv, _, hg, _, _, hs, _⟩
    · cases hv
    · injection hv with hv _ e2
      injection hv with hv
      injection hv with hv
      subst hv e2
      exact ⟨cur, hg, hs⟩
  obtain ⟨cur, hX5, hs5⟩ := hX5
  have hcl := fun ty => run_clrF w5 g ((n - 1) * 4) (n - (n - 1)) (c - (n - 1)) cur ty hX5 (by omega)
  have q4 := fsl_lh w5 g (n - 1) c (n - 1) n (by omega) hcap.1
  go_upto_region 6 with fail
  refine wp_region_lit ?_
  refine fl_start ?_
  generalize ha : Act.mk _ _ = a0
  have hn : a0.tmps.size = 33 := by rw [← ha]; kernel_rfl
  have h0 : (fr a0 []).eval (.tmp 0) = .slice (some ⟨g, 0, none⟩) (n - 1) c := by rw [← ha]; kernel_rfl
  refine fl_know hn rfl h0 ?_
  clear h0
  have h7 : (fr a0 [(0, true, .slice (some ⟨g, 0, none⟩) (n - 1) c)]).eval (.tmp 7) = .int .i64 (n : Nat) := by rw [← ha]; kernel_rfl
  refine fl_know hn rfl h7 ?_
  clear h7
  refine g_mv hn ?_
  refine g_mv hn ?_
  refine g_ln hn ?_
  refine g_mv hn ?_
  refine fl_op (v := .slice (some ⟨g, (n - 1) * 4, none⟩) (n - (n - 1)) (c - (n - 1))) (g := true) hn rfl rfl rfl (fun hk hg => x_slA (lk_at hk (i := 27) rfl (fun _ => rfl) rfl) (lk_at hk (i := 29) rfl (fun _ => rfl) rfl) (lk_at hk (i := 30) rfl (fun _ => rfl) rfl) q4) ?_
  obtain ⟨w6, vs, hr6, ho6, hX6⟩ := hcl _
  refine fl_valA rfl rfl (fun hk => x_clrA (lk_at hk (i := 31) rfl (fun _ => rfl) rfl) hr6) ?_
  refine fl_end ?_
  clear hn q4 hcl hr6
  subst ha
  dsimp only [fr, cnd, Act.put, cond_true]
  simp only [List.setIfInBounds_toArray, List.set_cons_zero, List.set_cons_succ]
  have hO6 := own_cut hO5 hX5 hX6
  have hg6 : w.grownBy w6 (some g) := ⟨ho6.os.trans hg5.os, ho6.tape.trans hg5.tape, ho6.output.trans hg5.output, by have := hg5.size; have := ho6.size; have e0 : w.drew.heap.size = w.heap.size := rfl; omega, fun k hk hne => (ho6.block k (fun e => hne (by rw [e]))).trans (hg5.block k hk hne)⟩
  go_wp2_with fail
  go_ret
  refine ⟨rfl, ⟨?_, ?_, ?_⟩, hg6⟩
  · rw [List.eraseIdx_eq_take_drop_succ]
    show w6.ownsRow base tFl 4 _ _ ((l.take k ++ l.drop (k + 1)).flatMap (·.toList))
    rw [List.flatMap_append]
    exact hO6
  · intro cs hc
    exact h.2.1 cs (List.mem_of_mem_eraseIdx hc)
  · rw [List.length_eraseIdx_of_lt (by omega), hlen]
end Go.Proofs.Ytdfifcgpjeojlaa

namespace Go.Proofs.Ytdfifcgpjeojlaa
open Go.RowKit

theorem en_slices_Delete_spinney_air_flight_spinney_air_flight : ∀ args w, (callFunc 25 args).run Try.prog w = .ok (.enter 25 args) w := enters_of Try.func25 (by kernel_rfl) rfl

theorem results_ctA {P : Program} {fn : Func} {p u : Tmp} {ty : TypeId} (h : fn.results = #[.cell p ty, .tmp u]) (tmps : Array Value) (w : World) (g : Nat) (t : TypeId) (cs : Array Value) (fr : Nat × Nat) (d : TypeDesc)
    (hp : tmps.getD p undef = .pointer (some ⟨g, 0, none⟩)) (hg : w.heap[g]? = some (.cells cs t fr))
    (hu : P.underlying ty = some d) (hd : (match d with | .struct _ | .array _ _ => true | _ => false) = true) (hi : (P.info? ty).map (·.size) = some cs.size) :
    (results fn tmps).run P w = .ok (.tuple #[.agg cs, tmps.getD u undef]) w := by
  have hp' : tmps[p]?.getD undef = .pointer (some ⟨g, 0, none⟩) := by simpa using hp
  simp [results, h, hp', asAddr, run_loadVar_row w g t ty cs fr d hg hu hd hi]
theorem bdPc (W : World) : (Instr.build 29 #[]).run Try.prog W = .ok (.agg #[.int .i64 0, .int .i64 0, .slice none 0 0]) W := by kernel_rfl
theorem alPc (w : World) : (Instr.alloc 29 true (.tuple #[])).run Try.prog w = .ok (.pointer (some ⟨w.heap.size, 0, none⟩)) (w.alloc (.cells #[.int .i64 0, .int .i64 0, .slice none 0 0] 29)) := by kernel_rfl
theorem x_alPc {w : World} {ρ : Operand → Value} {d : Option Tmp} {ty : TypeId} {p : String} {af : Array Edge} {gd : Option (Nat × Bool)} : (execOp ρ ⟨d, .alloc 29, ty, p, af, gd⟩).run Try.prog w = .ok (.value (.pointer (some ⟨w.heap.size, 0, none⟩))) (w.alloc (.cells #[.int .i64 0, .int .i64 0, .slice none 0 0] 29)) := by
  unfold execOp
  dsimp only
  rw [Sem.run_bind, alPc]
  rfl
theorem pc_oneC (x : Fl) : x.parcel.all (·.oneCell') = true := by
  obtain ⟨f, t, A, n, c, u, b⟩ := x
  simp [Value.oneCell']
theorem ffA (W : World) (g o : Nat) : (Instr.fieldAt 62 (.pointer (some ⟨g, o, none⟩)) 0).run Try.prog W = .ok (.pointer (some ⟨g, o, none⟩)) W := by
  first
    | kernel_rfl
    | go_simp
theorem pld {W : World} {g o : Nat} {x : Fl} (hc : ∀ j v, x.cells[j]? = some v → W.cell? ⟨g, o + j, none⟩ = some v) : (Instr.loadAt 29 (.pointer (some ⟨g, o, none⟩))).run Try.prog W = .ok (.agg x.parcel) W := by
  have c0 := hc 0 (.int .i64 x.f) rfl
  rw [Nat.add_zero] at c0
  have c1 : W.cell? ⟨g, o + 1, none⟩ = some (.int .i64 x.t) := hc 1 _ rfl
  have c2 : W.cell? ⟨g, o + 2, none⟩ = some (.slice x.A x.n x.c) := hc 2 _ rfl
  clear hc
  go_simp
theorem addInt (W : World) (k : Nat) (h : k ≤ 1000000) (x c : Operand) : ((do eqGuard .add 3 x c (.int .i64 (k : Int)) (.int .i64 1); binOp .add 3 (.int .i64 (k : Int)) (.int .i64 1)) : Sem Value).run Try.prog W = .ok (.int .i64 ((k + 1 : Nat) : Int)) W := by
  have e : IntKind.i64.wrap ((k : Int) + 1) = ((k + 1 : Nat) : Int) := by rw [IntKind.wrap_i64]; omega
  have e2 : wrap64 ((k : Int) + 1) = ((k + 1 : Nat) : Int) := by
    unfold wrap64
    omega
  first
    | (simp [eqGuard, binOp, go_sem, e, e2]; done)
    | (go_simp; simp [e, e2])
theorem map_eraseA {α β : Type} (f : α → β) (l : List α) (k : Nat) : (l.eraseIdx k).map f = (l.map f).eraseIdx k := by
  rw [List.eraseIdx_eq_take_drop_succ, List.eraseIdx_eq_take_drop_succ, List.map_append, List.map_take, List.map_drop]
/-- What Take answers. -/
def TakeP (base p : Nat) (ad : Addr) (n c k : Nat) (l : List Fl) (w : World) (e : Ending) (w' : World) : Prop := ∃ x, l[k]? = some x ∧ e = .returned (.tuple #[.agg x.parcel, .int .i64 0]) ∧ AirS base p (some ad) l w (some ad) (n - 1) c (l.eraseIdx k) w' ∧ OwnB base w' x.A x.n x.c x.b
set_option maxRecDepth 100000 in
set_option maxHeartbeats 4000000 in
theorem take_none (base p : Nat) (A : Option Addr) (c : Nat) (l : List Fl) (i : Int) (w : World) (h : AirM base p w A 0 c l) : Calls Try.prog 11 #[.pointer (some ⟨p, 0, none⟩), .int .i64 i] w fun e w' => e = .returned (.tuple #[.agg #[.int .i64 0, .int .i64 0, .slice none 0 0], .int .i64 5]) ∧ Below w.heap.size w w' := by
  have hX0 := blk_new w #[.int .i64 0, .int .i64 0, .slice none 0 0] 29
  have hB := b0 w (.cells #[.int .i64 0, .int .i64 0, .slice none 0 0] 29)
  have hzz : (w.alloc (.cells #[.int .i64 0, .int .i64 0, .slice none 0 0] 29)).heap.size = w.heap.size + 1 := by simp
  have hM0 := h.keep (b0 w (.cells #[.int .i64 0, .int .i64 0, .slice none 0 0] 29))
  go_enter Try.func11, Try.ntmps11
  go_upto_region 1 with fail
  generalize (w.alloc (.cells #[.int .i64 0, .int .i64 0, .slice none 0 0] 29)) = W0 at hX0 hB hzz hM0 ⊢
  generalize hb : w.heap.size = b at hX0 hB hzz hM0 ⊢
  have cP := place_none base p A c l i W0 hM0
  go_wp2_with fail
  refine cP.mono ?_
  rintro e w2 ⟨rfl, hw2⟩
  have hX2 : Blk w2 b #[.int .i64 0, .int .i64 0, .slice none 0 0] 29 := by rw [hw2]; exact hX0
  have hB2 : Below b w w2 := by rw [hw2]; exact hB
  clear hw2 cP
  go_upto_region 3 with fail
  refine wp_region_lit ?_
  refine fl_start ?_
  generalize ha : Act.mk _ _ = a0
  have hn : a0.tmps.size = 39 := by rw [← ha]; kernel_rfl
  have h4 : (fr a0 []).eval (.tmp 4) = .pointer (some ⟨b, 0, none⟩) := by rw [← ha]; kernel_rfl
  refine fl_know hn rfl h4 ?_
  clear h4
  have h7 : (fr a0 [(4, true, .pointer (some ⟨b, 0, none⟩))]).eval (.tmp 7) = .int .i64 5 := by rw [← ha]; kernel_rfl
  refine fl_know hn rfl h7 ?_
  clear h7
  refine g_bd hn ?_ (qs := #[]) (v := .agg #[.int .i64 0, .int .i64 0, .slice none 0 0]) (g := true) (hp := fun _ _ => by simp) (hx := bdPc _)
  refine g_mv hn ?_
  refine g_str hX2 ?_ (h1 := by simp [Value.oneCell'])
  intro w4 ho4 hX4
  refine g_as hn ?_
  refine fl_end ?_
  clear hn
  subst ha
  dsimp only [fr, cnd, Act.put, cond_true]
  simp only [List.setIfInBounds_toArray, List.set_cons_zero, List.set_cons_succ]
  have hB4 := hB2.trans (ho4.below (Nat.le_refl _))
  go_wp2_with fail
  refine bodyPost_ret (results_ctA Try.results11 _ _ (b) 29 #[.int .i64 0, .int .i64 0, .slice none 0 0] (0, 0) _ (by rfl) hX4 Try.underlying29 (by rfl) (by kernel_rfl)) rfl ?_
  exact ⟨rfl, by first | exact hB4 | (rw [hb]; exact hB4)⟩
set_option maxRecDepth 100000 in
set_option maxHeartbeats 4000000 in
theorem take_any (base p : Nat) (ad : Addr) (n c : Nat) (l : List Fl) (i : Int) (w : World) (h : AirM base p w (some ad) n c l) (h0 : 0 < n) (h4 : n ≤ 400) (hbw : base ≤ w.heap.size) : Calls Try.prog 11 #[.pointer (some ⟨p, 0, none⟩), .int .i64 i] w (TakeP base p ad n c (modA i n) l w) := by
  have hlt := modA_lt i h0
  have hX0 := blk_new w #[.int .i64 0, .int .i64 0, .slice none 0 0] 29
  have hB := b0 w (.cells #[.int .i64 0, .int .i64 0, .slice none 0 0] 29)
  have hzz : (w.alloc (.cells #[.int .i64 0, .int .i64 0, .slice none 0 0] 29)).heap.size = w.heap.size + 1 := by simp
  have hM0 := h.keep (b0 w (.cells #[.int .i64 0, .int .i64 0, .slice none 0 0] 29))
  go_enter Try.func11, Try.ntmps11
  go_upto_region 1 with fail
  generalize (w.alloc (.cells #[.int .i64 0, .int .i64 0, .slice none 0 0] 29)) = W0 at hX0 hB hzz hM0 ⊢
  generalize hb : w.heap.size = b at hX0 hB hzz hM0 ⊢
  have cP := place_some base p (some ad) n c l i W0 hM0 h0 (by omega)
  obtain ⟨g, rfl⟩ := hM0.row.atZero
  obtain ⟨ad', x, hA', hx, hc⟩ := hM0.at hlt
  injection hA' with hA'
  subst hA'
  have hc' : ∀ j v, x.cells[j]? = some v → W0.cell? ⟨g, modA i n * 4 + j, none⟩ = some v := fun j v hv => by
    have := hc j v hv
    rwa [addA] at this
  have l0 := ld_air hM0.blk
  have f0 := far0 W0 p
  have l1 := pld hc'
  have f1 := ffA W0 g (modA i n * 4)
  have x1 := fix W0 ⟨g, 0, none⟩ n c _ hlt
  rw [addA] at x1
  refine wp_region_lit ?_
  refine fl_start ?_
  generalize ha : Act.mk _ _ = a0
  have hn : a0.tmps.size = 39 := by rw [← ha]; kernel_rfl
  have h0 : (fr a0 []).eval (.tmp 0) = .pointer (some ⟨p, 0, none⟩) := by rw [← ha]; kernel_rfl
  refine fl_know hn rfl h0 ?_
  clear h0
  have h1 : (fr a0 [(0, true, .pointer (some ⟨p, 0, none⟩))]).eval (.tmp 1) = .int .i64 i := by rw [← ha]; kernel_rfl
  refine fl_know hn rfl h1 ?_
  clear h1
  refine g_mv hn ?_
  refine g_mv hn ?_
  refine g_c2x en_spinney_air_Air_place hn (R := fun v w2 => v = .tuple #[.int .i64 (modA i n : Nat), .int .i64 0] ∧ W0 = w2) (cP.mono fun _ _ ⟨he, hw⟩ => ⟨_, he, rfl, hw.symm⟩) ?_
  rintro v w2 ⟨rfl, hw2⟩
  subst hw2
  refine g_mv hn ?_
  refine g_ex hn ?_
  refine g_ex hn ?_
  refine g_as hn ?_
  refine g_as hn ?_
  refine fl_end ?_
  clear hn cP
  subst ha
  dsimp only [fr, cnd, Act.put, cond_true]
  simp only [List.setIfInBounds_toArray, List.set_cons_zero, List.set_cons_succ]
  go_upto_region 4 with fail
  refine wp_region_lit ?_
  refine fl_start ?_
  generalize ha : Act.mk _ _ = a0
  have hn : a0.tmps.size = 39 := by rw [← ha]; kernel_rfl
  have h0 : (fr a0 []).eval (.tmp 0) = .pointer (some ⟨p, 0, none⟩) := by rw [← ha]; kernel_rfl
  refine fl_know hn rfl h0 ?_
  clear h0
  have h6 : (fr a0 [(0, true, .pointer (some ⟨p, 0, none⟩))]).eval (.tmp 6) = .int .i64 (modA i n : Nat) := by rw [← ha]; kernel_rfl
  refine fl_know hn rfl h6 ?_
  clear h6
  refine g_mv hn ?_
  refine g_nc hn ?_
  refine g_fd hn ?_
  refine g_ld hn ?_
  refine g_mv hn ?_
  refine g_ix hn ?_
  refine g_fd hn ?_
  refine g_ld hn ?_
  refine g_w (v := .pointer (some ⟨W0.heap.size, 0, none⟩)) (w2 := W0.alloc (.cells #[.int .i64 0, .int .i64 0, .slice none 0 0] 29)) hn (fun _ => x_alPc) ?_
  have hX1 := blk_new W0 #[.int .i64 0, .int .i64 0, .slice none 0 0] 29
  have hM1 := hM0.keep (b0 W0 (.cells #[.int .i64 0, .int .i64 0, .slice none 0 0] 29))
  have hX01 := hX0.keep (b0 W0 (.cells #[.int .i64 0, .int .i64 0, .slice none 0 0] 29))
  have hB1 : Below b w (W0.alloc (.cells #[.int .i64 0, .int .i64 0, .slice none 0 0] 29)) := hB.trans ((b0 W0 (.cells #[.int .i64 0, .int .i64 0, .slice none 0 0] 29)).mono (by omega))
  have hz1 : (W0.alloc (.cells #[.int .i64 0, .int .i64 0, .slice none 0 0] 29)).heap.size = W0.heap.size + 1 := by simp
  generalize W0.alloc (.cells #[.int .i64 0, .int .i64 0, .slice none 0 0] 29) = W1 at hX1 hM1 hX01 hB1 hz1 ⊢
  have hb1 : W0.heap.size = b + 1 := hzz
  rw [hb1] at hX1 hz1 ⊢
  refine g_str hX1 ?_ (h1 := pc_oneC x)
  intro w2 ho2 hX2
  refine fl_end ?_
  clear hn l0 f0 l1 f1 x1
  subst ha
  dsimp only [fr, cnd, Act.put, cond_true]
  simp only [List.setIfInBounds_toArray, List.set_cons_zero, List.set_cons_succ]
  have hpb : p < b := by
    have := h.blk.lt
    omega
  have hbb : base ≤ b := by omega
  have hM2 : AirM base p w2 (some ⟨g, 0, none⟩) n c l := by
    have hgb : g < b := by
      have := (h.row.blk rfl).2
      have e : w.heap.size = b := hb
      rw [e] at this
      exact this
    have hg2 := only_grown ho2
    refine ⟨hM1.blk.only ho2 (by omega), ⟨World.ownsRow.kept hM1.row.1 hg2 ?_, hM1.row.2⟩, byt_grown hM1.byt hg2 (fun k hk => by
      injection hk with hk
      exact ⟨_, _, by rw [← hk]; exact hX1, by decide⟩), hM1.dis⟩
    right
    intro e
    simp only [Value.ownBlock, Option.some.injEq] at e
    omega
  have hX02 : Blk w2 b #[.int .i64 0, .int .i64 0, .slice none 0 0] 29 := hX01.only ho2 (by omega)
  have hB2 : Below b w w2 := hB1.trans (ho2.below (by omega))
  have hz2 : w2.heap.size = b + 2 := by rw [ho2.size, hz1]
  clear hM1 hM0 hX0 hX01 hX1 hB1 hB hc hc'
  have l2 := ld_air hM2.blk
  have f2 := far0 w2 p
  have q1 : ((do eqGuard .add 3 (.tmp 33) (.const (.int .i64 1)) (.int .i64 ((modA i n : Nat) : Int)) (.int .i64 1); binOp .add 3 (.int .i64 ((modA i n : Nat) : Int)) (.int .i64 1)) : Sem Value).run Try.prog w2 = .ok (.int .i64 ((modA i n + 1 : Nat) : Int)) w2 := addInt w2 _ (by omega) _ _
  have cD := delete_any g base n c (modA i n) (l.map Fl.cells) w2 hM2.row hlt (fun cs hc => by
    obtain ⟨y, _, rfl⟩ := List.mem_map.1 hc
    exact fl_oneC y)
  go_upto_region 5 with fail
  refine wp_region_lit ?_
  refine fl_start ?_
  generalize ha : Act.mk _ _ = a0
  have hn : a0.tmps.size = 39 := by rw [← ha]; kernel_rfl
  have h0 : (fr a0 []).eval (.tmp 0) = .pointer (some ⟨p, 0, none⟩) := by rw [← ha]; kernel_rfl
  refine fl_know hn rfl h0 ?_
  clear h0
  have h6 : (fr a0 [(0, true, .pointer (some ⟨p, 0, none⟩))]).eval (.tmp 6) = .int .i64 (modA i n : Nat) := by rw [← ha]; kernel_rfl
  refine fl_know hn rfl h6 ?_
  clear h6
  refine g_mv hn ?_
  refine g_mv hn ?_
  refine g_nc hn ?_
  refine g_fd hn ?_
  refine g_ld hn ?_
  refine g_mv hn ?_
  refine g_mv hn ?_
  refine g_bc hn ?_ (hr := q1)
  refine fl_callx (R := fun v w3 => v = .slice (some ⟨g, 0, none⟩) (n - 1) c ∧ OwnX tFl 4 base w3 (some ⟨g, 0, none⟩) (n - 1) c ((l.map Fl.cells).eraseIdx (modA i n)) ∧ w2.grownBy w3 (some g)) hn rfl rfl rfl (fun hk => call3_is en_slices_Delete_spinney_air_flight_spinney_air_flight _ _ _ _ _ _ _ _ _ _ (.slice (some ⟨g, 0, none⟩) n c) (.int .i64 (modA i n : Nat)) (.int .i64 ((modA i n + 1 : Nat) : Int)) (lk_at hk (i := 31) rfl (fun _ => rfl) rfl) (lk_at hk (i := 32) rfl (fun _ => rfl) rfl) (lk_at hk (i := 34) rfl (fun _ => rfl) rfl) rfl) (cD.mono fun _ _ ⟨he, hO, hg⟩ => ⟨_, he, rfl, hO, hg⟩) ?_
  rintro v w3 ⟨rfl, hO3, hg3⟩
  have hgp : p ≠ g := by
    obtain ⟨cs, hcs⟩ := hM2.row.blkT rfl
    exact hM2.blk.neT hcs (by decide)
  have hgb : g < b := by
    have := (h.row.blk rfl).2
    have e : w.heap.size = b := hb
    rw [e] at this
    exact this
  have hP3 : Blk w3 p #[.slice (some ⟨g, 0, none⟩) n c] tAir := (hg3.block p hM2.blk.lt (fun e => hgp (by injection e))).trans hM2.blk
  have f3 := far0 w3 p
  refine g_nc hn ?_
  refine g_fd hn ?_
  refine g_stt hP3 (hr := st_sf (j := 0) hP3 (by simp) (some ⟨g, 0, none⟩) (n - 1) c) ?_
  intro w4 ho4 hP4
  refine fl_end ?_
  clear hn l2 f2 f3 q1 cD
  subst ha
  dsimp only [fr, cnd, Act.put, cond_true]
  simp only [List.setIfInBounds_toArray, List.set_cons_zero, List.set_cons_succ]
  have hg4 := only_grown ho4
  have hr3 : ∀ k, some g = some k → ∃ cs t, Blk w2 k cs t ∧ t ≠ 5 := fun k hk => by
    injection hk with hk
    obtain ⟨cs, hcs⟩ := hM2.row.blkT rfl
    exact ⟨cs, tFl, by rw [← hk]; exact hcs, by decide⟩
  have hr4 : ∀ k, some p = some k → ∃ cs t, Blk w3 k cs t ∧ t ≠ 5 := fun k hk => by
    injection hk with hk
    exact ⟨_, tAir, by rw [← hk]; exact hP3, by decide⟩
  have hY4 := byt_grown (byt_grown hM2.byt hg3 hr3) hg4 hr4
  have hX04 : Blk w4 b #[.int .i64 0, .int .i64 0, .slice none 0 0] 29 := (show Blk w3 b #[.int .i64 0, .int .i64 0, .slice none 0 0] 29 from (hg3.block b hX02.lt (fun e => by injection e; omega)).trans hX02).only ho4 (by omega)
  have hX24 : Blk w4 (b + 1) x.parcel 29 := (show Blk w3 (b + 1) x.parcel 29 from (hg3.block (b + 1) hX2.lt (fun e => by injection e; omega)).trans hX2).only ho4 (by omega)
  have hO4 : OwnX tFl 4 base w4 (some ⟨g, 0, none⟩) (n - 1) c ((l.eraseIdx (modA i n)).map Fl.cells) := by
    rw [map_eraseA]
    refine ⟨World.ownsRow.kept hO3.1 hg4 (.inr ?_), hO3.2⟩
    intro e
    simp only [Value.ownBlock, Option.some.injEq] at e
    exact hgp e.symm
  have hz4 : b + 2 ≤ w4.heap.size := by
    have := hg3.size
    have := ho4.size
    omega
  have l5 := ld_pc hX24
  go_upto_region 6 with fail
  refine wp_region_lit ?_
  refine fl_start ?_
  generalize ha : Act.mk _ _ = a0
  have hn : a0.tmps.size = 39 := by rw [← ha]; kernel_rfl
  have h4 : (fr a0 []).eval (.tmp 4) = .pointer (some ⟨b, 0, none⟩) := by rw [← ha]; kernel_rfl
  refine fl_know hn rfl h4 ?_
  clear h4
  have h8 : (fr a0 [(4, true, .pointer (some ⟨b, 0, none⟩))]).eval (.tmp 8) = .pointer (some ⟨b + 1, 0, none⟩) := by rw [← ha]; kernel_rfl
  refine fl_know hn rfl h8 ?_
  clear h8
  refine g_ld hn ?_
  refine g_str hX04 ?_ (h1 := pc_oneC x)
  intro w5 ho5 hX5
  refine g_ac hn ?_
  refine fl_end ?_
  clear hn l5
  subst ha
  dsimp only [fr, cnd, Act.put, cond_true]
  simp only [List.setIfInBounds_toArray, List.set_cons_zero, List.set_cons_succ]
  have hg5 := only_grown ho5
  have hr5 : ∀ k, some b = some k → ∃ cs t, Blk w4 k cs t ∧ t ≠ 5 := fun k hk => by
    injection hk with hk
    exact ⟨_, _, by rw [← hk]; exact hX04, by decide⟩
  have hY5 := byt_grown hY4 hg5 hr5
  have hmem : ∀ y, y ∈ l.eraseIdx (modA i n) → y ∈ l := fun y hy => List.mem_of_mem_eraseIdx hy
  have hM5 : AirM base p w5 (some ⟨g, 0, none⟩) (n - 1) c (l.eraseIdx (modA i n)) := by
    refine ⟨hP4.only ho5 (by omega), ⟨World.ownsRow.kept hO4.1 hg5 (.inr ?_), hO4.2⟩, fun y hy => hY5 y (hmem y hy), h.dis.sublist (List.eraseIdx_sublist ..)⟩
    intro e
    simp only [Value.ownBlock, Option.some.injEq] at e
    omega
  have hfin : AirS base p (some ⟨g, 0, none⟩) l w (some ⟨g, 0, none⟩) (n - 1) c (l.eraseIdx (modA i n)) w5 := by
    have hwb : w.heap.size = b := hb
    refine ⟨hM5, ?_, ?_, ?_, ?_, fun k hk hno => ?_, fun k hk ho => ?_⟩
    · exact ho5.os.trans (ho4.os.trans (hg3.os.trans hB2.os))
    · exact ho5.tape.trans (ho4.tape.trans (hg3.tape.trans hB2.tape))
    · exact ho5.output.trans (ho4.output.trans (hg3.output.trans hB2.output))
    · have := ho5.size
      omega
    · rw [ho5.block k (by omega), ho4.block k (fun e => hno (.inl e)), hg3.block k (by omega) (fun e => hno (.inr (.inl ⟨_, rfl, by injection e with e; exact e.symm⟩)))]
      exact hB2.block k (by omega)
    · rcases ho with rfl | ho | ⟨y, hy, ho⟩
      · exact .inl rfl
      · exact .inr (.inl ho)
      · exact .inr (.inr ⟨y, hmem y hy, ho⟩)
  go_wp2_with fail
  refine bodyPost_ret (results_ctA Try.results11 _ _ (b) 29 x.parcel (0, 0) _ (by rfl) hX5 Try.underlying29 (by rfl) (by kernel_rfl)) rfl ?_
  exact ⟨x, hx, rfl, hfin, hY5 x (List.mem_of_getElem? hx)⟩
end Go.Proofs.Ytdfifcgpjeojlaa
