/-
  WHAT IS PROVED: the document's air: Turn. Conditions: those typed in each theorem.
-/
import Derived.Test.YtdfifcgpjeojlaaGQ7
namespace Go.Proofs.Ytdfifcgpjeojlaa
open Go.RowKit

theorem rfE3 (W : World) (a : Addr) : (Instr.fieldAt 45 (.pointer (some a)) 3).run Try.prog W = .ok (.pointer (some (a.add 3))) W := by
  first
    | kernel_rfl
    | go_simp
theorem rfE2 (W : World) (a : Addr) : (Instr.fieldAt 45 (.pointer (some a)) 2).run Try.prog W = .ok (.pointer (some (a.add 2))) W := by
  first
    | kernel_rfl
    | go_simp
theorem rfA3 (W : World) (g o : Nat) : (Instr.fieldAt 45 (.pointer (some ⟨g, o, none⟩)) 3).run Try.prog W = .ok (.pointer (some ⟨g, o + 3, none⟩)) W := by
  first
    | kernel_rfl
    | go_simp
theorem rfA2 (W : World) (g o : Nat) : (Instr.fieldAt 45 (.pointer (some ⟨g, o, none⟩)) 2).run Try.prog W = .ok (.pointer (some ⟨g, o + 2, none⟩)) W := by
  first
    | kernel_rfl
    | go_simp
theorem bsB0 (w : World) : (Instr.buildSlice 27 0 #[]).run Try.prog w = .ok (.slice (some ⟨w.heap.size, 0, none⟩) 0 0) (w.alloc (.cells #[] 5)) := by kernel_rfl
theorem x_bsB0 {w : World} {ρ : Operand → Value} {d : Option Tmp} {ty : TypeId} {p : String} {af : Array Edge} {gd : Option (Nat × Bool)} : (execOp ρ ⟨d, .buildSlice 27 0 #[], ty, p, af, gd⟩).run Try.prog w = .ok (.value (.slice (some ⟨w.heap.size, 0, none⟩) 0 0)) (w.alloc (.cells #[] 5)) := by
  unfold execOp
  dsimp only
  have e : (#[] : Array (Nat × Operand)).map (fun x => (x.fst, ρ x.snd)) = #[] := by simp
  have h := bsB0 w
  rw [← e] at h
  rw [Sem.run_bind]
  refine (congrArg (fun r => Result.andThen r _) h).trans ?_
  rfl
/-- One world is the other. -/
structure SameW (w w' : World) : Prop where
  eq : w' = w
theorem SameW.refl (w : World) : SameW w w := ⟨rfl⟩
/-- A parcel with a bit of it turned. -/
def Pc.turn (x : Pc) (q : Nat) : Pc := ⟨x.f, x.t, true, x.b.set (q / 8) (x.b.getD (q / 8) 0 ^^^ bitA (q % 8))⟩
def trnP (l : List Pc) (i bit : Int) : List Pc × Int := match l[modA i l.length]? with
  | none => (l, 5)
  | some x => if x.u = true then (l, 6) else if x.b.length = 0 then (l, 1) else (l.set (modA i l.length) (x.turn (modA bit (8 * x.b.length))), 0)
set_option maxRecDepth 100000 in
set_option maxHeartbeats 4000000 in
theorem rfTurn_none (B : Option Addr) (d : Nat) (ds : List Fl) (i bit : Int) (w : World) (h : RfM w B 0 d ds) : Calls Try.prog 19 #[.slice B 0 d, .int .i64 i, .int .i64 bit] w (RfA w B ds [] (trnP (ds.map Fl.pc) i bit)) := by
  have hl0 : (ds.map Fl.pc).length = 0 := by rw [List.length_map, h.len]
  go_enter Try.func19, Try.ntmps19
  go_wp2_with fail
  go_ret2
  have e1 : trnP (ds.map Fl.pc) i bit = (ds.map Fl.pc, 5) := by unfold trnP; rw [nilP hl0]
  rw [e1]
  exact ⟨B, 0, d, ds, rfl, RfR.same h (Below.refl _ _), rfl⟩
set_option maxRecDepth 100000 in
set_option maxHeartbeats 4000000 in
theorem rfTurn_twice (B : Option Addr) (m d : Nat) (ds : List Fl) (i bit : Int) (y : Fl) (w : World) (h : RfM w B m d ds) (h0 : 0 < m) (hm : m ≤ 1000000) (hy : ds[modA i m]? = some y) (hu : y.u = true) : Calls Try.prog 19 #[.slice B m d, .int .i64 i, .int .i64 bit] w fun e w' => e = .returned (.tuple #[.slice B m d, .int .i64 6]) ∧ Below w.heap.size w w' := by
  have hlt := modA_lt i h0
  have e0 : ((m : Int) == 0) = false := by rw [beq_eq_false_iff_ne]; omega
  have cA := rfAt_any i B m d w h0 hm
  obtain ⟨k, hk⟩ : ∃ k, k = modA i m := ⟨_, rfl⟩
  rw [← hk] at hlt cA hy
  obtain ⟨ad, y2, rfl, hy2, hadb, hc⟩ := h.at hlt
  rw [hy] at hy2
  injection hy2 with hy2
  subst hy2
  have HK := Lib.hid hk
  clear hk
  have ix := rfix w ad m d k hlt
  have f3 := rfE3 w (ad.add (k * 4))
  have l3 := ld_boA (show w.cell? ((ad.add (k * 4)).add 3) = some (.bool y.u) by rw [add_add']; exact hc 3 _ rfl)
  go_enter Try.func19, Try.ntmps19
  go_upto_region 3 with fail
  refine wp_region_lit ?_
  refine fl_start ?_
  generalize ha : Act.mk _ _ = a0
  have hn : a0.tmps.size = 97 := by rw [← ha]; kernel_rfl
  have h0 : (fr a0 []).eval (.tmp 0) = .slice (some ad) m d := by rw [← ha]; kernel_rfl
  refine fl_know hn rfl h0 ?_
  clear h0
  have h1 : (fr a0 [(0, true, .slice (some ad) m d)]).eval (.tmp 1) = .int .i64 i := by rw [← ha]; kernel_rfl
  refine fl_know hn rfl h1 ?_
  clear h1
  refine g_mv hn ?_
  refine g_mv hn ?_
  refine g_c2x en_spinney_spinneyref22_at hn (R := fun v w2 => v = .int .i64 (k : Nat) ∧ w = w2) (cA.mono fun _ _ ⟨he, hw⟩ => ⟨_, he, rfl, hw.symm⟩) ?_
  rintro v w2 ⟨rfl, hw2⟩
  subst hw2
  refine g_as hn ?_
  refine fl_end ?_
  clear hn cA
  subst ha
  dsimp only [fr, cnd, Act.put, cond_true]
  simp only [List.setIfInBounds_toArray, List.set_cons_zero, List.set_cons_succ]
  go_upto_region 4 with fail
  refine wp_region_lit ?_
  refine fl_start ?_
  generalize ha : Act.mk _ _ = a0
  have hn : a0.tmps.size = 97 := by rw [← ha]; kernel_rfl
  have h0 : (fr a0 []).eval (.tmp 0) = .slice (some ad) m d := by rw [← ha]; kernel_rfl
  refine fl_know hn rfl h0 ?_
  clear h0
  have h8 : (fr a0 [(0, true, .slice (some ad) m d)]).eval (.tmp 8) = .int .i64 (k : Nat) := by rw [← ha]; kernel_rfl
  refine fl_know hn rfl h8 ?_
  clear h8
  refine g_mv hn ?_
  refine g_mv hn ?_
  refine g_ix hn ?_
  refine g_fd hn ?_
  refine g_ld hn ?_
  refine fl_end ?_
  clear hn l3 f3
  subst ha
  dsimp only [fr, cnd, Act.put, cond_true]
  simp only [List.setIfInBounds_toArray, List.set_cons_zero, List.set_cons_succ]
  simp only [hu]
  go_wp2_with fail
  go_ret2
  exact ⟨rfl, Below.refl _ _⟩
set_option maxRecDepth 100000 in
set_option maxHeartbeats 4000000 in
theorem rfTurn_empty (B : Option Addr) (m d : Nat) (ds : List Fl) (i bit : Int) (y : Fl) (w : World) (h : RfM w B m d ds) (h0 : 0 < m) (hm : m ≤ 1000000) (hy : ds[modA i m]? = some y) (hu : y.u = false) (hn0 : y.n = 0) : Calls Try.prog 19 #[.slice B m d, .int .i64 i, .int .i64 bit] w fun e w' => e = .returned (.tuple #[.slice B m d, .int .i64 1]) ∧ Below w.heap.size w w' := by
  have hlt := modA_lt i h0
  have e0 : ((m : Int) == 0) = false := by rw [beq_eq_false_iff_ne]; omega
  have cA := rfAt_any i B m d w h0 hm
  obtain ⟨k, hk⟩ : ∃ k, k = modA i m := ⟨_, rfl⟩
  rw [← hk] at hlt cA hy
  obtain ⟨ad, y2, rfl, hy2, hadb, hc⟩ := h.at hlt
  rw [hy] at hy2
  injection hy2 with hy2
  subst hy2
  have HK := Lib.hid hk
  clear hk
  have ix := rfix w ad m d k hlt
  have f3 := rfE3 w (ad.add (k * 4))
  have l3 := ld_boA (show w.cell? ((ad.add (k * 4)).add 3) = some (.bool y.u) by rw [add_add']; exact hc 3 _ rfl)
  go_enter Try.func19, Try.ntmps19
  go_upto_region 3 with fail
  refine wp_region_lit ?_
  refine fl_start ?_
  generalize ha : Act.mk _ _ = a0
  have hn : a0.tmps.size = 97 := by rw [← ha]; kernel_rfl
  have h0 : (fr a0 []).eval (.tmp 0) = .slice (some ad) m d := by rw [← ha]; kernel_rfl
  refine fl_know hn rfl h0 ?_
  clear h0
  have h1 : (fr a0 [(0, true, .slice (some ad) m d)]).eval (.tmp 1) = .int .i64 i := by rw [← ha]; kernel_rfl
  refine fl_know hn rfl h1 ?_
  clear h1
  refine g_mv hn ?_
  refine g_mv hn ?_
  refine g_c2x en_spinney_spinneyref22_at hn (R := fun v w2 => v = .int .i64 (k : Nat) ∧ w = w2) (cA.mono fun _ _ ⟨he, hw⟩ => ⟨_, he, rfl, hw.symm⟩) ?_
  rintro v w2 ⟨rfl, hw2⟩
  subst hw2
  refine g_as hn ?_
  refine fl_end ?_
  clear hn cA
  subst ha
  dsimp only [fr, cnd, Act.put, cond_true]
  simp only [List.setIfInBounds_toArray, List.set_cons_zero, List.set_cons_succ]
  go_upto_region 4 with fail
  refine wp_region_lit ?_
  refine fl_start ?_
  generalize ha : Act.mk _ _ = a0
  have hn : a0.tmps.size = 97 := by rw [← ha]; kernel_rfl
  have h0 : (fr a0 []).eval (.tmp 0) = .slice (some ad) m d := by rw [← ha]; kernel_rfl
  refine fl_know hn rfl h0 ?_
  clear h0
  have h8 : (fr a0 [(0, true, .slice (some ad) m d)]).eval (.tmp 8) = .int .i64 (k : Nat) := by rw [← ha]; kernel_rfl
  refine fl_know hn rfl h8 ?_
  clear h8
  refine g_mv hn ?_
  refine g_mv hn ?_
  refine g_ix hn ?_
  refine g_fd hn ?_
  refine g_ld hn ?_
  refine fl_end ?_
  clear hn l3 f3
  subst ha
  dsimp only [fr, cnd, Act.put, cond_true]
  simp only [List.setIfInBounds_toArray, List.set_cons_zero, List.set_cons_succ]
  simp only [hu]
  have hyF := h.byt y (List.mem_of_getElem? hy)
  clear hc
  go_upto_region 6 with fail
  refine wp_region_lit ?_
  refine fl_start ?_
  generalize ha : Act.mk _ _ = a0
  have hn : a0.tmps.size = 97 := by rw [← ha]; kernel_rfl
  have h0 : (fr a0 []).eval (.tmp 0) = .slice (some ad) m d := by rw [← ha]; kernel_rfl
  refine fl_know hn rfl h0 ?_
  clear h0
  have h8 : (fr a0 [(0, true, .slice (some ad) m d)]).eval (.tmp 8) = .int .i64 (k : Nat) := by rw [← ha]; kernel_rfl
  refine fl_know hn rfl h8 ?_
  clear h8
  refine g_w hn (fun _ => x_bsB0) ?_
  have hb1 := b0 w (.cells #[] 5)
  have hE1 : OwnB w.heap.size (w.alloc (.cells #[] 5)) (some ⟨w.heap.size, 0, none⟩) 0 0 [] := OwnB.lit w #[] [] rfl rfl (Nat.le_refl _) (Nat.zero_le _)
  have hM1 := h.keep hb1
  have hF1 := hyF.keep hb1
  have ix := rfix (w.alloc (.cells #[] 5)) ad m d k hlt
  have f2 := rfE2 (w.alloc (.cells #[] 5)) (ad.add (k * 4))
  have l2 : (Instr.loadAt 27 (.pointer (some ((ad.add (k * 4)).add 2)))).run Try.prog (w.alloc (.cells #[] 5)) = .ok (.slice y.A y.n y.c) (w.alloc (.cells #[] 5)) := ld_sl (by
    obtain ⟨ad2, y3, e2, hy3, _, hc3⟩ := hM1.at hlt
    injection e2 with e2
    subst e2
    rw [hy] at hy3
    injection hy3 with hy3
    subst hy3
    rw [add_add']
    exact hc3 2 _ rfl)
  generalize w.alloc (.cells #[] 5) = w1 at hb1 hE1 hM1 hF1 ix f2 l2 ⊢
  refine g_mv hn ?_
  refine g_mv hn ?_
  refine g_ix hn ?_
  refine g_fd hn ?_
  refine g_ld hn ?_
  obtain ⟨i0, hi0, hz0, hz1, hz2⟩ := info_parts byt_info
  obtain ⟨A2, c2, w2, hr2, hO2, hb2, -⟩ := run_apB (P := Try.prog) (ty := 27) (base := w.heap.size) (n := 0) (m := y.n) (d := y.c) w1 Try.underlying27 Try.underlying27 hi0 hz0 hz1 hz2 hE1 hF1.rd hF1.len (by have := hyF.few; omega) hb1.size
  rw [Nat.zero_add] at hr2 hO2
  rw [List.nil_append] at hO2
  refine g_w hn (fun hk => x_ap (lk_at hk (i := 26) rfl (fun _ => rfl) rfl) (lk_at hk (i := 31) rfl (fun _ => rfl) rfl) hr2) ?_
  refine g_as hn ?_
  refine fl_end ?_
  clear hn ix f2 l2 hr2
  subst ha
  dsimp only [fr, cnd, Act.put, cond_true]
  simp only [List.setIfInBounds_toArray, List.set_cons_zero, List.set_cons_succ]
  have hB2 : Below w.heap.size w w2 := hb1.trans hb2
  clear hE1 hM1 hF1 hb1 hb2
  rw [hn0]
  go_wp2_with fail
  go_ret2
  exact ⟨rfl, hB2⟩
theorem blk_of_set {W : World} {g : Nat} {cs : Array Value} {t : TypeId} (h : Blk W g cs t) (j : Nat) (v : Value) : (W.setCell ⟨g, j, none⟩ v).heap[g]? = some (.cells (cs.setIfInBounds j v) t (0, 0)) := h.set j v
theorem rfTurn_fin {B : Option Addr} {m d : Nat} {ds : List Fl} {i : Int} {y : Fl} {w w7 : World} {k q g5 gb c5 c2 : Nat} (h : RfM w B m d ds) (hk : k = modA i m) (hy : ds[k]? = some y) (hlt : k < m) (hq8 : q / 8 < y.n) (hR7 : OwnX tRf 4 w.heap.size w7 (some ⟨g5, 0, none⟩) m c5 (((ds.map Fl.cells).set k (y.cells.setIfInBounds 2 (.slice (some ⟨gb, 0, none⟩) y.n c2))).set k ((y.cells.setIfInBounds 2 (.slice (some ⟨gb, 0, none⟩) y.n c2)).setIfInBounds 3 (.bool true)))) (hO7 : OwnB w.heap.size w7 (some ⟨gb, 0, none⟩) y.n c2 (y.b.set (q / 8) (y.b.getD (q / 8) 0 ^^^ bitA (q % 8)))) (hB7 : Below w.heap.size w w7) : ∃ (B' : Option Addr) (m' d' : Nat) (ds' : List Fl), Ending.returned (.tuple #[.slice (some ⟨g5, 0, none⟩) m c5, .int .i64 0]) = .returned (.tuple #[.slice B' m' d', .int .i64 0]) ∧ RfR w w7 B ds [] B' m' d' ds' ∧ ds'.map Fl.pc = (ds.map Fl.pc).set (modA i m) (y.pc.turn q) := by
  have e1 : ((ds.map Fl.cells).set k (y.cells.setIfInBounds 2 (.slice (some ⟨gb, 0, none⟩) y.n c2))).set k ((y.cells.setIfInBounds 2 (.slice (some ⟨gb, 0, none⟩) y.n c2)).setIfInBounds 3 (.bool true)) = (ds.set k (⟨y.f, y.t, some ⟨gb, 0, none⟩, y.n, c2, true, (y.b.set (q / 8) (y.b.getD (q / 8) 0 ^^^ bitA (q % 8)))⟩ : Fl)).map Fl.cells := by
    rw [List.set_set, List.map_set]
    rfl
  rw [e1] at hR7
  have hyF := h.byt y (List.mem_of_getElem? hy)
  refine ⟨_, _, _, _, rfl, ⟨⟨hR7.rd, by rw [List.length_set, h.len], hR7.cap.1, fun z hz => ?_⟩, hB7, fun j hj => ?_⟩, ?_⟩
  · rcases List.mem_or_eq_of_mem_set hz with hz | rfl
    · exact (h.byt z hz).keep hB7
    · exact ⟨hO7.rd, hO7.len, (fun e => nomatch e), hyF.few⟩
  · rcases hj with ⟨_, a, ha, rfl⟩ | ⟨z, hz, hne, a, ha, rfl⟩
    · injection ha with ha
      subst ha
      exact .inr (.inr (hR7.blk rfl).1)
    · rcases List.mem_or_eq_of_mem_set hz with hz | rfl
      · exact .inl (.inr ⟨z, hz, hne, a, ha, rfl⟩)
      · exact .inr (.inr (hO7.blk ha).1)
  · rw [List.map_set, hk]
    rfl
set_option maxRecDepth 100000 in
set_option maxHeartbeats 4000000 in
theorem rfTurn_good (B : Option Addr) (m d : Nat) (ds : List Fl) (i bit : Int) (y : Fl) (w : World) (h : RfM w B m d ds) (h0 : 0 < m) (hm : m ≤ 1000000) (hy : ds[modA i m]? = some y) (hu : y.u = false) (hn0 : 0 < y.n) (hfew : y.n ≤ 100000) (q : Nat) (hq : q = modA bit (8 * y.n)) : Calls Try.prog 19 #[.slice B m d, .int .i64 i, .int .i64 bit] w fun e w' => ∃ (B' : Option Addr) (m' d' : Nat) (ds' : List Fl), e = .returned (.tuple #[.slice B' m' d', .int .i64 0]) ∧ RfR w w' B ds [] B' m' d' ds' ∧ ds'.map Fl.pc = (ds.map Fl.pc).set (modA i m) (y.pc.turn q) := by
  have hqlt : q < 8 * y.n := by rw [hq]; exact modA_lt bit (by omega)
  have hq8 : q / 8 < y.n := by omega
  have hlt := modA_lt i h0
  have e0 : ((m : Int) == 0) = false := by rw [beq_eq_false_iff_ne]; omega
  have cA := rfAt_any i B m d w h0 hm
  obtain ⟨k, hk⟩ : ∃ k, k = modA i m := ⟨_, rfl⟩
  rw [← hk] at hlt cA hy
  obtain ⟨ad, y2, rfl, hy2, hadb, hc⟩ := h.at hlt
  rw [hy] at hy2
  injection hy2 with hy2
  subst hy2
  have HK := Lib.hid hk
  clear hk
  have ix := rfix w ad m d k hlt
  have f3 := rfE3 w (ad.add (k * 4))
  have l3 := ld_boA (show w.cell? ((ad.add (k * 4)).add 3) = some (.bool y.u) by rw [add_add']; exact hc 3 _ rfl)
  go_enter Try.func19, Try.ntmps19
  go_upto_region 3 with fail
  refine wp_region_lit ?_
  refine fl_start ?_
  generalize ha : Act.mk _ _ = a0
  have hn : a0.tmps.size = 97 := by rw [← ha]; kernel_rfl
  have h0 : (fr a0 []).eval (.tmp 0) = .slice (some ad) m d := by rw [← ha]; kernel_rfl
  refine fl_know hn rfl h0 ?_
  clear h0
  have h1 : (fr a0 [(0, true, .slice (some ad) m d)]).eval (.tmp 1) = .int .i64 i := by rw [← ha]; kernel_rfl
  refine fl_know hn rfl h1 ?_
  clear h1
  refine g_mv hn ?_
  refine g_mv hn ?_
  refine g_c2x en_spinney_spinneyref22_at hn (R := fun v w2 => v = .int .i64 (k : Nat) ∧ w = w2) (cA.mono fun _ _ ⟨he, hw⟩ => ⟨_, he, rfl, hw.symm⟩) ?_
  rintro v w2 ⟨rfl, hw2⟩
  subst hw2
  refine g_as hn ?_
  refine fl_end ?_
  clear hn cA
  subst ha
  dsimp only [fr, cnd, Act.put, cond_true]
  simp only [List.setIfInBounds_toArray, List.set_cons_zero, List.set_cons_succ]
  go_upto_region 4 with fail
  refine wp_region_lit ?_
  refine fl_start ?_
  generalize ha : Act.mk _ _ = a0
  have hn : a0.tmps.size = 97 := by rw [← ha]; kernel_rfl
  have h0 : (fr a0 []).eval (.tmp 0) = .slice (some ad) m d := by rw [← ha]; kernel_rfl
  refine fl_know hn rfl h0 ?_
  clear h0
  have h8 : (fr a0 [(0, true, .slice (some ad) m d)]).eval (.tmp 8) = .int .i64 (k : Nat) := by rw [← ha]; kernel_rfl
  refine fl_know hn rfl h8 ?_
  clear h8
  refine g_mv hn ?_
  refine g_mv hn ?_
  refine g_ix hn ?_
  refine g_fd hn ?_
  refine g_ld hn ?_
  refine fl_end ?_
  clear hn l3 f3
  subst ha
  dsimp only [fr, cnd, Act.put, cond_true]
  simp only [List.setIfInBounds_toArray, List.set_cons_zero, List.set_cons_succ]
  simp only [hu]
  have hyF := h.byt y (List.mem_of_getElem? hy)
  clear hc
  go_upto_region 6 with fail
  refine wp_region_lit ?_
  refine fl_start ?_
  generalize ha : Act.mk _ _ = a0
  have hn : a0.tmps.size = 97 := by rw [← ha]; kernel_rfl
  have h0 : (fr a0 []).eval (.tmp 0) = .slice (some ad) m d := by rw [← ha]; kernel_rfl
  refine fl_know hn rfl h0 ?_
  clear h0
  have h8 : (fr a0 [(0, true, .slice (some ad) m d)]).eval (.tmp 8) = .int .i64 (k : Nat) := by rw [← ha]; kernel_rfl
  refine fl_know hn rfl h8 ?_
  clear h8
  refine g_w hn (fun _ => x_bsB0) ?_
  have hb1 := b0 w (.cells #[] 5)
  have hE1 : OwnB w.heap.size (w.alloc (.cells #[] 5)) (some ⟨w.heap.size, 0, none⟩) 0 0 [] := OwnB.lit w #[] [] rfl rfl (Nat.le_refl _) (Nat.zero_le _)
  have hM1 := h.keep hb1
  have hF1 := hyF.keep hb1
  have ix := rfix (w.alloc (.cells #[] 5)) ad m d k hlt
  have f2 := rfE2 (w.alloc (.cells #[] 5)) (ad.add (k * 4))
  have l2 : (Instr.loadAt 27 (.pointer (some ((ad.add (k * 4)).add 2)))).run Try.prog (w.alloc (.cells #[] 5)) = .ok (.slice y.A y.n y.c) (w.alloc (.cells #[] 5)) := ld_sl (by
    obtain ⟨ad2, y3, e2, hy3, _, hc3⟩ := hM1.at hlt
    injection e2 with e2
    subst e2
    rw [hy] at hy3
    injection hy3 with hy3
    subst hy3
    rw [add_add']
    exact hc3 2 _ rfl)
  generalize w.alloc (.cells #[] 5) = w1 at hb1 hE1 hM1 hF1 ix f2 l2 ⊢
  refine g_mv hn ?_
  refine g_mv hn ?_
  refine g_ix hn ?_
  refine g_fd hn ?_
  refine g_ld hn ?_
  obtain ⟨i0, hi0, hz0, hz1, hz2⟩ := info_parts byt_info
  obtain ⟨A2, c2, w2, hr2, hO2, hb2, -⟩ := run_apB (P := Try.prog) (ty := 27) (base := w.heap.size) (n := 0) (m := y.n) (d := y.c) w1 Try.underlying27 Try.underlying27 hi0 hz0 hz1 hz2 hE1 hF1.rd hF1.len (by have := hyF.few; omega) hb1.size
  rw [Nat.zero_add] at hr2 hO2
  rw [List.nil_append] at hO2
  refine g_w hn (fun hk => x_ap (lk_at hk (i := 26) rfl (fun _ => rfl) rfl) (lk_at hk (i := 31) rfl (fun _ => rfl) rfl) hr2) ?_
  refine g_as hn ?_
  refine fl_end ?_
  clear hn ix f2 l2 hr2
  subst ha
  dsimp only [fr, cnd, Act.put, cond_true]
  simp only [List.setIfInBounds_toArray, List.set_cons_zero, List.set_cons_succ]
  have hB2 : Below w.heap.size w w2 := hb1.trans hb2
  clear hE1 hM1 hF1 hb1 hb2
  have en0 : ((y.n : Int) == 0) = false := by rw [beq_eq_false_iff_ne]; omega
  obtain ⟨gb, rfl, hgb1, hgb2⟩ := hO2.form hn0
  obtain ⟨cb, hX2⟩ := hO2.blkT rfl
  obtain ⟨z, hz⟩ : ∃ z, z = y.b.getD (q / 8) 0 := ⟨_, rfl⟩
  have hlb : q / 8 < y.b.length := by rw [hyF.len]; exact hq8
  have hzy : y.b[q / 8]? = some z := by
    rw [hz, List.getD_eq_getElem?_getD, List.getElem?_eq_getElem hlb]
    rfl
  have c8 := hO2.cellAt hzy
  have hfr := hO2.free (q / 8)
  have hpos : 0 ≤ bit % 18446744073709551616 := Int.emod_nonneg _ (by decide)
  have q1 : (convert 3 69 (.int .i64 bit)).run Try.prog w2 = .ok (.int .u64 (((bit % 18446744073709551616).toNat : Nat) : Int)) w2 := by
    rw [Int.toNat_of_nonneg hpos, ← IntKind.wrap_u64]
    go_simp
  have q2 : (convert 3 69 (.int .i64 ((8 * y.n : Nat) : Int))).run Try.prog w2 = .ok (.int .u64 ((8 * y.n : Nat) : Int)) w2 := by
    have e : IntKind.u64.wrap ((8 * y.n : Nat) : Int) = ((8 * y.n : Nat) : Int) := by rw [IntKind.wrap_u64]; omega
    generalize 8 * y.n = N at *
    rw [← e]
    go_simp
    try rw [e]
  have q3 := rem_uu 38 42 w2 (bit % 18446744073709551616).toNat (8 * y.n) (by omega) (by omega)
  have hq' : (bit % 18446744073709551616).toNat % (8 * y.n) = q := by rw [hq]; rfl
  rw [hq'] at q3
  have HQ := Lib.hid hq
  have HZ := Lib.hid hz
  clear hq hq' hz
  have q4 : (convert 69 3 (.int .u64 (q : Int))).run Try.prog w2 = .ok (.int .i64 (q : Int)) w2 := cv_ui w2 (by omega)
  go_upto_region 9 with fail
  refine wp_region_lit ?_
  refine fl_start ?_
  generalize ha : Act.mk _ _ = a0
  have hn : a0.tmps.size = 97 := by rw [← ha]; kernel_rfl
  have h2 : (fr a0 []).eval (.tmp 2) = .int .i64 bit := by rw [← ha]; kernel_rfl
  refine fl_know hn rfl h2 ?_
  clear h2
  have h9 : (fr a0 [(2, true, .int .i64 bit)]).eval (.tmp 9) = .slice (some ⟨gb, 0, none⟩) y.n c2 := by rw [← ha]; kernel_rfl
  refine fl_know hn rfl h9 ?_
  clear h9
  refine g_mv hn ?_
  refine g_cv hn ?_ (hr := q1)
  refine g_mv hn ?_
  refine g_ln hn ?_
  refine g_o1 (i := 40) (vi := .int .i64 (y.n : Nat)) (v := .int .i64 ((8 * y.n : Nat) : Int)) hn (fun ρ h1 hc => x_cbC h1 (hc _) (mulA w2 40 y.n (by omega))) ?_
  refine g_cv hn ?_ (hr := q2)
  refine g_bn hn ?_ (hr := q3)
  refine g_cv hn ?_ (hr := q4)
  refine g_as hn ?_
  refine fl_end ?_
  clear hn q1 q2 q3 q4
  subst ha
  dsimp only [fr, cnd, Act.put, cond_true]
  simp only [List.setIfInBounds_toArray, List.set_cons_zero, List.set_cons_succ]
  go_wp2_with fail
  go_loopw [11, 12] (fun t11 t12 wr => ∃ x : Nat, x ≤ q % 8 ∧ t11 = .int .u8 ((2 ^ x : Nat) : Int) ∧ t12 = .int .i64 x ∧ SameW w2 wr) (fun _ t12 _ => 8 - (intOf t12).toNat)
  case atStart => exact ⟨0, Nat.zero_le _, rfl, rfl, SameW.refl _⟩
  case round =>
    obtain ⟨x, hx, rfl, rfl, hww⟩ := hrel
    have hww := hww.eq
    subst hww
    have r47 := remA wr 46 q
    go_upto_region 12 with fail
    refine wp_region_lit ?_
    refine fl_start ?_
    generalize ha : Act.mk _ _ = a0
    have hn : a0.tmps.size = 97 := by rw [← ha]; kernel_rfl
    have h10 : (fr a0 []).eval (.tmp 10) = .int .i64 (q : Nat) := by rw [← ha]; kernel_rfl
    refine fl_know hn rfl h10 ?_
    clear h10
    have h12 : (fr a0 [(10, true, .int .i64 (q : Nat))]).eval (.tmp 12) = .int .i64 (x : Nat) := by rw [← ha]; kernel_rfl
    refine fl_know hn rfl h12 ?_
    clear h12
    refine g_mv hn ?_
    refine g_mv hn ?_
    refine g_bc hn ?_ (hr := r47)
    refine g_lss2 hn ?_
    refine fl_end ?_
    clear hn r47
    subst ha
    dsimp only [fr, cnd, Act.put, cond_true]
    simp only [List.setIfInBounds_toArray, List.set_cons_zero, List.set_cons_succ]
    by_cases hxe : x < q % 8
    · have i2 : (x : Int) < ((q % 8 : Nat) : Int) := by omega
      have h27 : 2 ^ x ≤ 64 := by
        have := Nat.pow_le_pow_right (n := 2) (by decide) (show x ≤ 6 by omega)
        simpa using this
      have m52 := mul8T wr 51 (2 ^ x) (by omega)
      rw [← Nat.pow_succ] at m52
      go_upto_region 14 with fail
      refine wp_region_lit ?_
      refine fl_start ?_
      generalize ha : Act.mk _ _ = a0
      have hn : a0.tmps.size = 97 := by rw [← ha]; kernel_rfl
      have h11 : (fr a0 []).eval (.tmp 11) = .int .u8 ((2 ^ x : Nat) : Int) := by rw [← ha]; kernel_rfl
      refine fl_know hn rfl h11 ?_
      clear h11
      refine g_mv hn ?_
      refine g_bc hn ?_ (hr := m52)
      refine g_as hn ?_
      refine fl_end ?_
      clear hn m52
      subst ha
      dsimp only [fr, cnd, Act.put, cond_true]
      simp only [List.setIfInBounds_toArray, List.set_cons_zero, List.set_cons_succ]
      go_wp2_with fail
      refine ⟨?_, ?_⟩
      · first
        | exact ⟨x + 1, by omega, rfl, by go_num, SameW.refl _⟩
        | repeat apply Exists.intro
          refine ⟨?_, rfl⟩
          exact ⟨x + 1, by omega, rfl, by go_num, SameW.refl _⟩
      · simp [intOf]; omega
    · have e : x = q % 8 := by omega
      have i2 : ¬ (x : Int) < ((q % 8 : Nat) : Int) := by omega
      subst e
      have c8' := c8
      have ixb := bixA wr gb y.n c2 (q / 8) hq8
      have lb := ld_u8A c8
      obtain ⟨h2a, h2b⟩ := two_le (Nat.mod_lt q (show 0 < 8 by decide))
      have q59 := quo8T wr 57 58 z.toNat (2 ^ (q % 8)) h2b z.toNat_lt
      have hqs : z.toNat / 2 ^ (q % 8) < 256 := by have := Nat.div_le_self z.toNat (2 ^ (q % 8)); have := z.toNat_lt; omega
      have q60 := rem8T wr 59 (z.toNat / 2 ^ (q % 8)) hqs
      obtain ⟨hf1, hf2⟩ := flip_is z (Nat.mod_lt q (show 0 < 8 by decide))
      by_cases h1 : z.toNat / 2 ^ (q % 8) % 2 = 1
      · have q61 := eq8T wr 60 (z.toNat / 2 ^ (q % 8) % 2) true (by rw [h1]; rfl)
        obtain ⟨g1, g2⟩ := hf1 h1
        have s71 := sub8T wr 69 70 z.toNat (2 ^ (q % 8)) g1 z.toNat_lt
        rw [g2] at s71
        go_upto_region 15 with fail
        refine wp_region_lit ?_
        refine fl_start ?_
        generalize ha : Act.mk _ _ = a0
        have hn : a0.tmps.size = 97 := by rw [← ha]; kernel_rfl
        have h9 : (fr a0 []).eval (.tmp 9) = .slice (some ⟨gb, 0, none⟩) y.n c2 := by rw [← ha]; kernel_rfl
        refine fl_know hn rfl h9 ?_
        clear h9
        have h10 : (fr a0 [(9, true, .slice (some ⟨gb, 0, none⟩) y.n c2)]).eval (.tmp 10) = .int .i64 (q : Nat) := by rw [← ha]; kernel_rfl
        refine fl_know hn rfl h10 ?_
        clear h10
        have h11 : (fr a0 [(10, true, .int .i64 (q : Nat)), (9, true, .slice (some ⟨gb, 0, none⟩) y.n c2)]).eval (.tmp 11) = .int .u8 ((2 ^ (q % 8) : Nat) : Int) := by rw [← ha]; kernel_rfl
        refine fl_know hn rfl h11 ?_
        clear h11
        refine g_mv hn ?_
        refine g_mv hn ?_
        refine g_bc hn ?_ (hr := quoA wr 54 q (by omega))
        refine g_ix hn ?_
        refine g_ld hn ?_
        refine g_mv hn ?_
        refine g_bn hn ?_ (hr := q59)
        refine g_bc hn ?_ (hr := q60)
        refine g_bc hn ?_ (hr := q61)
        refine fl_end ?_
        clear hn
        subst ha
        dsimp only [fr, cnd, Act.put, cond_true]
        simp only [List.setIfInBounds_toArray, List.set_cons_zero, List.set_cons_succ]
        go_upto_region 16 with fail
        refine wp_region_lit ?_
        refine fl_start ?_
        generalize ha : Act.mk _ _ = a0
        have hn : a0.tmps.size = 97 := by rw [← ha]; kernel_rfl
        have h9 : (fr a0 []).eval (.tmp 9) = .slice (some ⟨gb, 0, none⟩) y.n c2 := by rw [← ha]; kernel_rfl
        refine fl_know hn rfl h9 ?_
        clear h9
        have h10 : (fr a0 [(9, true, .slice (some ⟨gb, 0, none⟩) y.n c2)]).eval (.tmp 10) = .int .i64 (q : Nat) := by rw [← ha]; kernel_rfl
        refine fl_know hn rfl h10 ?_
        clear h10
        have h11 : (fr a0 [(10, true, .int .i64 (q : Nat)), (9, true, .slice (some ⟨gb, 0, none⟩) y.n c2)]).eval (.tmp 11) = .int .u8 ((2 ^ (q % 8) : Nat) : Int) := by rw [← ha]; kernel_rfl
        refine fl_know hn rfl h11 ?_
        clear h11
        refine g_mv hn ?_
        refine g_mv hn ?_
        refine g_bc hn ?_ (hr := quoA wr 63 q (by omega))
        refine g_mv hn ?_
        refine g_mv hn ?_
        refine g_bc hn ?_ (hr := quoA wr 66 q (by omega))
        refine g_ix hn ?_
        refine g_ld hn ?_
        refine g_mv hn ?_
        refine g_bn hn ?_ (hr := s71)
        refine g_ix hn ?_
        refine g_stt hX2 (hr := st_u8A c8 hfr _) ?_
        intro w3 ho3 hX3
        refine fl_end ?_
        clear hn
        subst ha
        dsimp only [fr, cnd, Act.put, cond_true]
        simp only [List.setIfInBounds_toArray, List.set_cons_zero, List.set_cons_succ]
        have hO3 : OwnB w.heap.size w3 (some ⟨gb, 0, none⟩) y.n c2 (y.b.set (q / 8) (y.b.getD (q / 8) 0 ^^^ bitA (q % 8))) := by
          have h5 := hO2.set (q / 8) (z ^^^ bitA (q % 8))
          have e5 := (blk_of_set hX2 (q / 8) (.int .u8 (((z ^^^ bitA (q % 8)).toNat : Nat) : Int)))
          rw [← HZ.out]
          exact own_blkA h5 (hX3.trans e5.symm)
        have hB3 : Below w.heap.size w w3 := hB2.trans (ho3.below (by omega))
        have hM3 := h.keep hB3
        clear hX2 hX3 ho3 c8 c8' hfr ixb lb q59 q60 q61 s71 hO2
        go_upto_region 18 with fail
        refine wp_region_lit ?_
        refine fl_start ?_
        generalize ha : Act.mk _ _ = a0
        have hn : a0.tmps.size = 97 := by rw [← ha]; kernel_rfl
        have h0 : (fr a0 []).eval (.tmp 0) = .slice (some ad) m d := by rw [← ha]; kernel_rfl
        refine fl_know hn rfl h0 ?_
        clear h0
        refine g_w hn (fun _ => x_bsR0) ?_
        have hE4 := own0R w3 w.heap.size hB3.size
        have hb4 := b0 w3 (.cells #[] tRf)
        generalize w3.alloc (.cells #[] tRf) = w4 at hE4 hb4 ⊢
        refine g_mv hn ?_
        obtain ⟨a5, c5, w5, hr5, hR5, hb5, hst5⟩ := run_apR (ty := 41) (dd := d) w4 hE4 ((hM3.keep hb4).rd) h.len (by omega) (Nat.le_trans hB3.size hb4.size)
        rw [Nat.zero_add] at hr5 hR5
        rw [List.nil_append] at hR5
        refine g_w hn (fun hk => x_ap (lk_at hk (i := 84) rfl (fun _ => rfl) rfl) (lk_at hk (i := 85) rfl (fun _ => rfl) rfl) hr5) ?_
        refine g_as hn ?_
        refine fl_end ?_
        clear hn hr5
        subst ha
        dsimp only [fr, cnd, Act.put, cond_true]
        simp only [List.setIfInBounds_toArray, List.set_cons_zero, List.set_cons_succ]
        have hO4 := hO3.keep hb4
        have hO5 : OwnB w.heap.size w5 (some ⟨gb, 0, none⟩) y.n c2 (y.b.set (q / 8) (y.b.getD (q / 8) 0 ^^^ bitA (q % 8))) := own_blkA hO4 (hst5 gb (hO4.blk rfl).2 (fun e => by
          have h1 := (hO3.blk rfl).2
          have h2 : w3.heap.size = gb := e
          have h3 : gb < w3.heap.size := h1
          omega))
        have hB5 : Below w.heap.size w w5 := (hB3.trans (hb4.mono hB3.size)).trans hb5
        clear hE4 hb4 hb5 hst5 hO4 hO3 hM3
        obtain ⟨g5, rfl⟩ := hR5.atZero
        obtain ⟨cur, hX5, hs5⟩ := own_cur hR5.1
        have hcap5 := hR5.cap
        have hyc : (ds.map Fl.cells)[k]? = some y.cells := by rw [List.getElem?_map, hy]; rfl
        have ix5 := rfix w5 ⟨g5, 0, none⟩ m c5 k hlt
        rw [addA] at ix5
        have f5 := rfA2 w5 g5 (k * 4)
        have hj5 : k * 4 + 2 < cur.size := by omega
        go_upto_region 19 with fail
        refine wp_region_lit ?_
        refine fl_start ?_
        generalize ha : Act.mk _ _ = a0
        have hn : a0.tmps.size = 97 := by rw [← ha]; kernel_rfl
        have h0 : (fr a0 []).eval (.tmp 0) = .slice (some ⟨g5, 0, none⟩) m c5 := by rw [← ha]; kernel_rfl
        refine fl_know hn rfl h0 ?_
        clear h0
        have h8 : (fr a0 [(0, true, .slice (some ⟨g5, 0, none⟩) m c5)]).eval (.tmp 8) = .int .i64 (k : Nat) := by rw [← ha]; kernel_rfl
        refine fl_know hn rfl h8 ?_
        clear h8
        have h9 : (fr a0 [(8, true, .int .i64 (k : Nat)), (0, true, .slice (some ⟨g5, 0, none⟩) m c5)]).eval (.tmp 9) = .slice (some ⟨gb, 0, none⟩) y.n c2 := by rw [← ha]; kernel_rfl
        refine fl_know hn rfl h9 ?_
        clear h9
        refine g_mv hn ?_
        refine g_mv hn ?_
        refine g_mv hn ?_
        refine g_ix hn ?_
        refine g_fd hn ?_
        refine g_stt hX5 (hr := st_sl (j := k * 4 + 2) hX5 hj5 (some ⟨gb, 0, none⟩) y.n c2) ?_
        intro w6 ho6 hX6
        refine fl_end ?_
        clear hn ix5 f5
        subst ha
        dsimp only [fr, cnd, Act.put, cond_true]
        simp only [List.setIfInBounds_toArray, List.set_cons_zero, List.set_cons_succ]
        have hR6 := hR5.storeA hyc (by decide : 2 < 4) hX5 hX6
        have hne : gb ≠ g5 := by
          obtain ⟨cs1, h1⟩ := hO5.blkT rfl
          exact h1.neT hX5 (by decide)
        have hO6 : OwnB w.heap.size w6 (some ⟨gb, 0, none⟩) y.n c2 (y.b.set (q / 8) (y.b.getD (q / 8) 0 ^^^ bitA (q % 8))) := own_blkA hO5 (ho6.block gb hne)
        have hg5 : w.heap.size ≤ g5 := (hR5.blk rfl).1
        have hB6 := hB5.trans (ho6.below hg5)
        have ix6 := rfix w6 ⟨g5, 0, none⟩ m c5 k hlt
        rw [addA] at ix6
        have f6 := rfA3 w6 g5 (k * 4)
        have hj6 : k * 4 + 3 < (cur.setIfInBounds (k * 4 + 2) (.slice (some ⟨gb, 0, none⟩) y.n c2)).size := by rw [Array.size_setIfInBounds]; omega
        go_upto_region 20 with fail
        refine wp_region_lit ?_
        refine fl_start ?_
        generalize ha : Act.mk _ _ = a0
        have hn : a0.tmps.size = 97 := by rw [← ha]; kernel_rfl
        have h0 : (fr a0 []).eval (.tmp 0) = .slice (some ⟨g5, 0, none⟩) m c5 := by rw [← ha]; kernel_rfl
        refine fl_know hn rfl h0 ?_
        clear h0
        have h8 : (fr a0 [(0, true, .slice (some ⟨g5, 0, none⟩) m c5)]).eval (.tmp 8) = .int .i64 (k : Nat) := by rw [← ha]; kernel_rfl
        refine fl_know hn rfl h8 ?_
        clear h8
        refine g_mv hn ?_
        refine g_mv hn ?_
        refine g_ix hn ?_
        refine g_fd hn ?_
        refine g_stc hX6 (hr := st_boA (j := k * 4 + 3) hX6 hj6 true) ?_
        intro w7 ho7 hX7
        refine fl_end ?_
        clear hn ix6 f6
        subst ha
        dsimp only [fr, cnd, Act.put, cond_true]
        simp only [List.setIfInBounds_toArray, List.set_cons_zero, List.set_cons_succ]
        have hR7 := hR6.storeA (List.getElem?_set_self (by rw [List.length_map, h.len]; exact hlt)) (by decide : 3 < 4) hX6 hX7
        have hO7 : OwnB w.heap.size w7 (some ⟨gb, 0, none⟩) y.n c2 (y.b.set (q / 8) (y.b.getD (q / 8) 0 ^^^ bitA (q % 8))) := own_blkA hO6 (ho7.block gb hne)
        have hB7 := hB6.trans (ho7.below hg5)
        go_wp2_with fail
        go_ret2
        obtain ⟨B', m', d', ds', he, hR, hp⟩ := rfTurn_fin h HK.out hy hlt hq8 hR7 hO7 hB7
        exact ⟨B', m', d', he, ds', hR, hp⟩
      · have q61 := eq8T wr 60 (z.toNat / 2 ^ (q % 8) % 2) false (by rw [beq_eq_false_iff_ne]; exact h1)
        obtain ⟨g1, g2⟩ := hf2 h1
        have s71 := add8T wr 80 81 z.toNat (2 ^ (q % 8)) g1
        rw [g2] at s71
        go_upto_region 15 with fail
        refine wp_region_lit ?_
        refine fl_start ?_
        generalize ha : Act.mk _ _ = a0
        have hn : a0.tmps.size = 97 := by rw [← ha]; kernel_rfl
        have h9 : (fr a0 []).eval (.tmp 9) = .slice (some ⟨gb, 0, none⟩) y.n c2 := by rw [← ha]; kernel_rfl
        refine fl_know hn rfl h9 ?_
        clear h9
        have h10 : (fr a0 [(9, true, .slice (some ⟨gb, 0, none⟩) y.n c2)]).eval (.tmp 10) = .int .i64 (q : Nat) := by rw [← ha]; kernel_rfl
        refine fl_know hn rfl h10 ?_
        clear h10
        have h11 : (fr a0 [(10, true, .int .i64 (q : Nat)), (9, true, .slice (some ⟨gb, 0, none⟩) y.n c2)]).eval (.tmp 11) = .int .u8 ((2 ^ (q % 8) : Nat) : Int) := by rw [← ha]; kernel_rfl
        refine fl_know hn rfl h11 ?_
        clear h11
        refine g_mv hn ?_
        refine g_mv hn ?_
        refine g_bc hn ?_ (hr := quoA wr 54 q (by omega))
        refine g_ix hn ?_
        refine g_ld hn ?_
        refine g_mv hn ?_
        refine g_bn hn ?_ (hr := q59)
        refine g_bc hn ?_ (hr := q60)
        refine g_bc hn ?_ (hr := q61)
        refine fl_end ?_
        clear hn
        subst ha
        dsimp only [fr, cnd, Act.put, cond_true]
        simp only [List.setIfInBounds_toArray, List.set_cons_zero, List.set_cons_succ]
        go_upto_region 17 with fail
        refine wp_region_lit ?_
        refine fl_start ?_
        generalize ha : Act.mk _ _ = a0
        have hn : a0.tmps.size = 97 := by rw [← ha]; kernel_rfl
        have h9 : (fr a0 []).eval (.tmp 9) = .slice (some ⟨gb, 0, none⟩) y.n c2 := by rw [← ha]; kernel_rfl
        refine fl_know hn rfl h9 ?_
        clear h9
        have h10 : (fr a0 [(9, true, .slice (some ⟨gb, 0, none⟩) y.n c2)]).eval (.tmp 10) = .int .i64 (q : Nat) := by rw [← ha]; kernel_rfl
        refine fl_know hn rfl h10 ?_
        clear h10
        have h11 : (fr a0 [(10, true, .int .i64 (q : Nat)), (9, true, .slice (some ⟨gb, 0, none⟩) y.n c2)]).eval (.tmp 11) = .int .u8 ((2 ^ (q % 8) : Nat) : Int) := by rw [← ha]; kernel_rfl
        refine fl_know hn rfl h11 ?_
        clear h11
        refine g_mv hn ?_
        refine g_mv hn ?_
        refine g_bc hn ?_ (hr := quoA wr 74 q (by omega))
        refine g_mv hn ?_
        refine g_mv hn ?_
        refine g_bc hn ?_ (hr := quoA wr 77 q (by omega))
        refine g_ix hn ?_
        refine g_ld hn ?_
        refine g_mv hn ?_
        refine g_bn hn ?_ (hr := s71)
        refine g_ix hn ?_
        refine g_stt hX2 (hr := st_u8A c8 hfr _) ?_
        intro w3 ho3 hX3
        refine fl_end ?_
        clear hn
        subst ha
        dsimp only [fr, cnd, Act.put, cond_true]
        simp only [List.setIfInBounds_toArray, List.set_cons_zero, List.set_cons_succ]
        have hO3 : OwnB w.heap.size w3 (some ⟨gb, 0, none⟩) y.n c2 (y.b.set (q / 8) (y.b.getD (q / 8) 0 ^^^ bitA (q % 8))) := by
          have h5 := hO2.set (q / 8) (z ^^^ bitA (q % 8))
          have e5 := (blk_of_set hX2 (q / 8) (.int .u8 (((z ^^^ bitA (q % 8)).toNat : Nat) : Int)))
          rw [← HZ.out]
          exact own_blkA h5 (hX3.trans e5.symm)
        have hB3 : Below w.heap.size w w3 := hB2.trans (ho3.below (by omega))
        have hM3 := h.keep hB3
        clear hX2 hX3 ho3 c8 c8' hfr ixb lb q59 q60 q61 s71 hO2
        go_upto_region 18 with fail
        refine wp_region_lit ?_
        refine fl_start ?_
        generalize ha : Act.mk _ _ = a0
        have hn : a0.tmps.size = 97 := by rw [← ha]; kernel_rfl
        have h0 : (fr a0 []).eval (.tmp 0) = .slice (some ad) m d := by rw [← ha]; kernel_rfl
        refine fl_know hn rfl h0 ?_
        clear h0
        refine g_w hn (fun _ => x_bsR0) ?_
        have hE4 := own0R w3 w.heap.size hB3.size
        have hb4 := b0 w3 (.cells #[] tRf)
        generalize w3.alloc (.cells #[] tRf) = w4 at hE4 hb4 ⊢
        refine g_mv hn ?_
        obtain ⟨a5, c5, w5, hr5, hR5, hb5, hst5⟩ := run_apR (ty := 41) (dd := d) w4 hE4 ((hM3.keep hb4).rd) h.len (by omega) (Nat.le_trans hB3.size hb4.size)
        rw [Nat.zero_add] at hr5 hR5
        rw [List.nil_append] at hR5
        refine g_w hn (fun hk => x_ap (lk_at hk (i := 84) rfl (fun _ => rfl) rfl) (lk_at hk (i := 85) rfl (fun _ => rfl) rfl) hr5) ?_
        refine g_as hn ?_
        refine fl_end ?_
        clear hn hr5
        subst ha
        dsimp only [fr, cnd, Act.put, cond_true]
        simp only [List.setIfInBounds_toArray, List.set_cons_zero, List.set_cons_succ]
        have hO4 := hO3.keep hb4
        have hO5 : OwnB w.heap.size w5 (some ⟨gb, 0, none⟩) y.n c2 (y.b.set (q / 8) (y.b.getD (q / 8) 0 ^^^ bitA (q % 8))) := own_blkA hO4 (hst5 gb (hO4.blk rfl).2 (fun e => by
          have h1 := (hO3.blk rfl).2
          have h2 : w3.heap.size = gb := e
          have h3 : gb < w3.heap.size := h1
          omega))
        have hB5 : Below w.heap.size w w5 := (hB3.trans (hb4.mono hB3.size)).trans hb5
        clear hE4 hb4 hb5 hst5 hO4 hO3 hM3
        obtain ⟨g5, rfl⟩ := hR5.atZero
        obtain ⟨cur, hX5, hs5⟩ := own_cur hR5.1
        have hcap5 := hR5.cap
        have hyc : (ds.map Fl.cells)[k]? = some y.cells := by rw [List.getElem?_map, hy]; rfl
        have ix5 := rfix w5 ⟨g5, 0, none⟩ m c5 k hlt
        rw [addA] at ix5
        have f5 := rfA2 w5 g5 (k * 4)
        have hj5 : k * 4 + 2 < cur.size := by omega
        go_upto_region 19 with fail
        refine wp_region_lit ?_
        refine fl_start ?_
        generalize ha : Act.mk _ _ = a0
        have hn : a0.tmps.size = 97 := by rw [← ha]; kernel_rfl
        have h0 : (fr a0 []).eval (.tmp 0) = .slice (some ⟨g5, 0, none⟩) m c5 := by rw [← ha]; kernel_rfl
        refine fl_know hn rfl h0 ?_
        clear h0
        have h8 : (fr a0 [(0, true, .slice (some ⟨g5, 0, none⟩) m c5)]).eval (.tmp 8) = .int .i64 (k : Nat) := by rw [← ha]; kernel_rfl
        refine fl_know hn rfl h8 ?_
        clear h8
        have h9 : (fr a0 [(8, true, .int .i64 (k : Nat)), (0, true, .slice (some ⟨g5, 0, none⟩) m c5)]).eval (.tmp 9) = .slice (some ⟨gb, 0, none⟩) y.n c2 := by rw [← ha]; kernel_rfl
        refine fl_know hn rfl h9 ?_
        clear h9
        refine g_mv hn ?_
        refine g_mv hn ?_
        refine g_mv hn ?_
        refine g_ix hn ?_
        refine g_fd hn ?_
        refine g_stt hX5 (hr := st_sl (j := k * 4 + 2) hX5 hj5 (some ⟨gb, 0, none⟩) y.n c2) ?_
        intro w6 ho6 hX6
        refine fl_end ?_
        clear hn ix5 f5
        subst ha
        dsimp only [fr, cnd, Act.put, cond_true]
        simp only [List.setIfInBounds_toArray, List.set_cons_zero, List.set_cons_succ]
        have hR6 := hR5.storeA hyc (by decide : 2 < 4) hX5 hX6
        have hne : gb ≠ g5 := by
          obtain ⟨cs1, h1⟩ := hO5.blkT rfl
          exact h1.neT hX5 (by decide)
        have hO6 : OwnB w.heap.size w6 (some ⟨gb, 0, none⟩) y.n c2 (y.b.set (q / 8) (y.b.getD (q / 8) 0 ^^^ bitA (q % 8))) := own_blkA hO5 (ho6.block gb hne)
        have hg5 : w.heap.size ≤ g5 := (hR5.blk rfl).1
        have hB6 := hB5.trans (ho6.below hg5)
        have ix6 := rfix w6 ⟨g5, 0, none⟩ m c5 k hlt
        rw [addA] at ix6
        have f6 := rfA3 w6 g5 (k * 4)
        have hj6 : k * 4 + 3 < (cur.setIfInBounds (k * 4 + 2) (.slice (some ⟨gb, 0, none⟩) y.n c2)).size := by rw [Array.size_setIfInBounds]; omega
        go_upto_region 20 with fail
        refine wp_region_lit ?_
        refine fl_start ?_
        generalize ha : Act.mk _ _ = a0
        have hn : a0.tmps.size = 97 := by rw [← ha]; kernel_rfl
        have h0 : (fr a0 []).eval (.tmp 0) = .slice (some ⟨g5, 0, none⟩) m c5 := by rw [← ha]; kernel_rfl
        refine fl_know hn rfl h0 ?_
        clear h0
        have h8 : (fr a0 [(0, true, .slice (some ⟨g5, 0, none⟩) m c5)]).eval (.tmp 8) = .int .i64 (k : Nat) := by rw [← ha]; kernel_rfl
        refine fl_know hn rfl h8 ?_
        clear h8
        refine g_mv hn ?_
        refine g_mv hn ?_
        refine g_ix hn ?_
        refine g_fd hn ?_
        refine g_stc hX6 (hr := st_boA (j := k * 4 + 3) hX6 hj6 true) ?_
        intro w7 ho7 hX7
        refine fl_end ?_
        clear hn ix6 f6
        subst ha
        dsimp only [fr, cnd, Act.put, cond_true]
        simp only [List.setIfInBounds_toArray, List.set_cons_zero, List.set_cons_succ]
        have hR7 := hR6.storeA (List.getElem?_set_self (by rw [List.length_map, h.len]; exact hlt)) (by decide : 3 < 4) hX6 hX7
        have hO7 : OwnB w.heap.size w7 (some ⟨gb, 0, none⟩) y.n c2 (y.b.set (q / 8) (y.b.getD (q / 8) 0 ^^^ bitA (q % 8))) := own_blkA hO6 (ho7.block gb hne)
        have hB7 := hB6.trans (ho7.below hg5)
        go_wp2_with fail
        go_ret2
        obtain ⟨B', m', d', ds', he, hR, hp⟩ := rfTurn_fin h HK.out hy hlt hq8 hR7 hO7 hB7
        exact ⟨B', m', d', he, ds', hR, hp⟩
/-- The document's Turn. -/
theorem rfTurn_any (B : Option Addr) (m d : Nat) (ds : List Fl) (i bit : Int) (w : World) (h : RfM w B m d ds) (hm : m ≤ 1000000) (hf : ∀ y, y ∈ ds → y.n ≤ 100000) : Calls Try.prog 19 #[.slice B m d, .int .i64 i, .int .i64 bit] w (RfA w B ds [] (trnP (ds.map Fl.pc) i bit)) := by
  have hl : (ds.map Fl.pc).length = m := by rw [List.length_map, h.len]
  by_cases h0 : 0 < m
  · obtain ⟨y, hy⟩ : ∃ y, ds[modA i m]? = some y := ⟨_, List.getElem?_eq_getElem (show modA i m < ds.length by rw [h.len]; exact modA_lt i h0)⟩
    have hym := List.mem_of_getElem? hy
    have e0 : (ds.map Fl.pc)[modA i (ds.map Fl.pc).length]? = some y.pc := by rw [hl, List.getElem?_map, hy]; rfl
    have hln : y.pc.b.length = y.n := (h.byt y hym).len
    cases hu : y.u with
    | true =>
      have e1 : trnP (ds.map Fl.pc) i bit = (ds.map Fl.pc, 6) := by unfold trnP; rw [e0]; dsimp only; rw [if_pos hu]
      rw [e1]
      exact (rfTurn_twice B m d ds i bit y w h h0 hm hy hu).mono fun e w2 ⟨he, hb⟩ => ⟨B, m, d, ds, he, RfR.same h hb, rfl⟩
    | false =>
      have hu' : ¬ y.pc.u = true := by show ¬ y.u = true; rw [hu]; decide
      by_cases hn0 : y.n = 0
      · have e1 : trnP (ds.map Fl.pc) i bit = (ds.map Fl.pc, 1) := by unfold trnP; rw [e0]; dsimp only; rw [if_neg hu', if_pos (by rw [hln]; exact hn0)]
        rw [e1]
        exact (rfTurn_empty B m d ds i bit y w h h0 hm hy hu hn0).mono fun e w2 ⟨he, hb⟩ => ⟨B, m, d, ds, he, RfR.same h hb, rfl⟩
      · have e1 : trnP (ds.map Fl.pc) i bit = ((ds.map Fl.pc).set (modA i m) (y.pc.turn (modA bit (8 * y.n))), 0) := by unfold trnP; rw [e0]; dsimp only; rw [if_neg hu', if_neg (by rw [hln]; exact hn0), hl, hln]
        rw [e1]
        exact (rfTurn_good B m d ds i bit y w h h0 hm hy hu (by omega) (hf y hym) _ rfl).mono fun e w2 ⟨B', m', d', ds', he, hR, hp⟩ => ⟨B', m', d', ds', he, hR, hp⟩
  · have e : m = 0 := by omega
    subst e
    exact rfTurn_none B d ds i bit w h
end Go.Proofs.Ytdfifcgpjeojlaa
