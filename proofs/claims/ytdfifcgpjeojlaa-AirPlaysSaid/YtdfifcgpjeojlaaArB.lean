/-
  WHAT IS PROVED: package air's copied, send, Send, Double: what they answer and leave. Conditions: those typed in each theorem.
-/
import Derived.Test.YtdfifcgpjeojlaaGQ3
namespace Go.Proofs.Ytdfifcgpjeojlaa
open Go.RowKit

theorem en_spinney_air_Air_send : ∀ args w, (callFunc 22 args).run Try.prog w = .ok (.enter 22 args) w := enters_of Try.func22 (by kernel_rfl) rfl
theorem en_spinney_air_Air_Send : ∀ args w, (callFunc 7 args).run Try.prog w = .ok (.enter 7 args) w := enters_of Try.func7 (by kernel_rfl) rfl
theorem en_spinney_air_Air_Double : ∀ args w, (callFunc 8 args).run Try.prog w = .ok (.enter 8 args) w := enters_of Try.func8 (by kernel_rfl) rfl

/-- A flight that may be handed in: its bytes read. -/
structure FlIn (W : World) (x : Fl) : Prop where
  rd : RdB W.heap.size W x.A x.b
  len : x.b.length = x.n
  nil : x.A = none → x.n = 0 ∧ x.c = 0
  few : x.n ≤ 1000000
theorem FlIn.keep {W W' : World} {x : Fl} (h : FlIn W x) (hb : Below W.heap.size W W') : FlIn W' x := ⟨(h.rd.keep hb (Nat.le_refl _)).more hb.size, h.len, h.nil, h.few⟩
theorem fl_oneC (x : Fl) : x.cells.all (·.oneCell') = true := by
  obtain ⟨f, t, A, n, c, u, b⟩ := x
  simp [Value.oneCell']
theorem fp0 (W : World) (b : Nat) : (Instr.fieldAt 62 (.pointer (some ⟨b, 0, none⟩)) 0).run Try.prog W = .ok (.pointer (some ⟨b, 0, none⟩)) W := by kernel_rfl
theorem pp2 (W : World) (b : Nat) : (Instr.fieldAt 29 (.pointer (some ⟨b, 0, none⟩)) 2).run Try.prog W = .ok (.pointer (some ⟨b, 2, none⟩)) W := by kernel_rfl
theorem ld_sl {W : World} {a : Addr} {A : Option Addr} {n c : Nat} (h : W.cell? a = some (.slice A n c)) : (Instr.loadAt 27 (.pointer (some a))).run Try.prog W = .ok (.slice A n c) W := by go_simp
theorem ld_fl {W : World} {b : Nat} {x : Fl} {t : TypeId} (h : Blk W b x.cells t) : (Instr.loadAt 62 (.pointer (some ⟨b, 0, none⟩))).run Try.prog W = .ok (.agg x.cells) W := by
  have c0 := h.cell 0
  have c1 := h.cell 1
  have c2 := h.cell 2
  have c3 := h.cell 3
  clear h
  go_simp
theorem st_sl {W : World} {b j : Nat} {cs : Array Value} {T : TypeId} (hX : Blk W b cs T) (hj : j < cs.size) (A : Option Addr) (n c : Nat) : (Instr.storeAt 27 (.pointer (some ⟨b, j, none⟩)) (.slice A n c)).run Try.prog W = .ok () (W.setCell ⟨b, j, none⟩ (.slice A n c)) := by
  obtain ⟨u, hu⟩ := blk_some hX hj
  have hf := hX.free j
  clear hX
  go_simp
theorem st_sf {W : World} {b j : Nat} {cs : Array Value} {T : TypeId} (hX : Blk W b cs T) (hj : j < cs.size) (A : Option Addr) (n c : Nat) : (Instr.storeAt 55 (.pointer (some ⟨b, j, none⟩)) (.slice A n c)).run Try.prog W = .ok () (W.setCell ⟨b, j, none⟩ (.slice A n c)) := by
  obtain ⟨u, hu⟩ := blk_some hX hj
  have hf := hX.free j
  clear hX
  go_simp
/-- What copied answers. -/
def CopP (x : Fl) (w : World) (e : Ending) (w' : World) : Prop := (∃ (A2 : Option Addr) (c2 : Nat), e = .returned (.agg (⟨x.f, x.t, A2, x.n, c2, x.u, x.b⟩ : Fl).cells) ∧ OwnB w.heap.size w' A2 x.n c2 x.b) ∧ Below w.heap.size w w'
set_option maxRecDepth 100000 in
set_option maxHeartbeats 4000000 in
theorem copied_any (x : Fl) (w : World) (h : FlIn w x) : Calls Try.prog 27 #[.agg x.cells] w (CopP x w) := by
  have hX0 := blk_new w x.cells 62
  replace hX0 := hX0.alloc (.cells #[.int .i64 0, .int .i64 0, .slice none 0 0, .bool false] 62)
  have hz1 : (w.alloc (.cells x.cells 62)).heap.size = w.heap.size + 1 := by simp
  have hX1 := blk_new (w.alloc (.cells x.cells 62)) #[.int .i64 0, .int .i64 0, .slice none 0 0, .bool false] 62
  rw [hz1] at hX1
  have hB := ba (b0 w (.cells x.cells 62)) (.cells #[.int .i64 0, .int .i64 0, .slice none 0 0, .bool false] 62)
  have hzz : ((w.alloc (.cells x.cells 62)).alloc (.cells #[.int .i64 0, .int .i64 0, .slice none 0 0, .bool false] 62)).heap.size = w.heap.size + 2 := by simp
  go_enter Try.func27, Try.ntmps27
  go_upto_region 1 with fail
  generalize ((w.alloc (.cells x.cells 62)).alloc (.cells #[.int .i64 0, .int .i64 0, .slice none 0 0, .bool false] 62)) = W0 at hX0 hX1 hB hzz ⊢
  (try simp only [hz1])
  clear hz1
  generalize hb : w.heap.size = b at hX0 hX1 hB hzz ⊢
  have hr0 : RdB W0.heap.size W0 x.A x.b := (h.rd.keep (by rw [hb]; exact hB) (Nat.le_refl _)).more (by have := hB.size; omega)
  have f0 := fp0 W0 b
  have p2 := pp2 W0 b
  have l0 := ld_sl (hX0.cell 2)
  have cB := bclone_any x.A x.n x.c x.b W0 h.len hr0 (Nat.le_refl _) h.few h.nil
  refine wp_region_lit ?_
  refine fl_start ?_
  generalize ha : Act.mk _ _ = a0
  have hn : a0.tmps.size = 10 := by rw [← ha]; kernel_rfl
  have h1 : (fr a0 []).eval (.tmp 1) = .pointer (some ⟨b, 0, none⟩) := by rw [← ha]; kernel_rfl
  refine fl_know hn rfl h1 ?_
  clear h1
  refine g_fd hn ?_
  refine g_fd hn ?_
  refine g_ld hn ?_
  refine g_c1x en_bytes_Clone hn (R := fun v w2 => ∃ A2 c2, v = .slice A2 x.n c2 ∧ OwnB W0.heap.size w2 A2 x.n c2 x.b ∧ Below W0.heap.size W0 w2) (cB.mono fun _ _ ⟨⟨A2, c2, he, hO⟩, hb2⟩ => ⟨_, he, A2, c2, rfl, hO, hb2⟩) ?_
  rintro v w2 ⟨A2, c2, rfl, hO2, hb2⟩
  have hX2 := hX0.keep hb2
  have hZ2 := hX1.keep hb2
  have f02 := fp0 w2 b
  have p22 := pp2 w2 b
  refine g_fd hn ?_
  refine g_fd hn ?_
  refine g_stt hX2 (hr := st_sl (j := 2) hX2 (by simp) A2 x.n c2) ?_
  intro w3 ho3 hX3
  refine fl_end ?_
  clear hn f0 p2 l0 cB f02 p22
  subst ha
  dsimp only [fr, cnd, Act.put, cond_true]
  simp only [List.setIfInBounds_toArray, List.set_cons_zero, List.set_cons_succ]
  have hX4 : Blk w3 b (⟨x.f, x.t, A2, x.n, c2, x.u, x.b⟩ : Fl).cells 62 := hX3
  have hZ3 := hZ2.only ho3 (by omega)
  have hbs : b < W0.heap.size := hX0.lt
  have hO3 : OwnB w.heap.size w3 A2 x.n c2 x.b := by
    have hg : w2.grownBy w3 (some b) := ⟨ho3.os, ho3.tape, ho3.output, Nat.le_of_eq ho3.size.symm, fun k _ hne => ho3.block k (fun e => hne (by rw [e]))⟩
    have hk : OwnB W0.heap.size w3 A2 x.n c2 x.b := by
      refine World.ownsRow.kept hO2 hg ?_
      cases A2 with
      | none => simp [Value.ownBlock]
      | some a =>
        right
        intro e
        have h1 := (hO2.blk rfl).1
        simp only [Value.ownBlock, Option.some.injEq] at e
        omega
    exact hk.less (by have := hB.size; omega)
  have l1 := ld_fl hX4
  go_upto_region 2 with fail
  refine wp_region_lit ?_
  refine fl_start ?_
  generalize ha : Act.mk _ _ = a0
  have hn : a0.tmps.size = 10 := by rw [← ha]; kernel_rfl
  have h1 : (fr a0 []).eval (.tmp 1) = .pointer (some ⟨b, 0, none⟩) := by rw [← ha]; kernel_rfl
  refine fl_know hn rfl h1 ?_
  clear h1
  have h2 : (fr a0 [(1, true, .pointer (some ⟨b, 0, none⟩))]).eval (.tmp 2) = .pointer (some ⟨b + 1, 0, none⟩) := by rw [← ha]; kernel_rfl
  refine fl_know hn rfl h2 ?_
  clear h2
  refine g_ld hn ?_
  refine g_str (c := (⟨x.f, x.t, A2, x.n, c2, x.u, x.b⟩ : Fl).cells) hZ3 ?_ (h1 := fl_oneC _)
  intro w4 ho4 hX5
  refine fl_end ?_
  clear hn l1
  subst ha
  dsimp only [fr, cnd, Act.put, cond_true]
  simp only [List.setIfInBounds_toArray, List.set_cons_zero, List.set_cons_succ]
  have hO4 : OwnB w.heap.size w4 A2 x.n c2 x.b := by
    have hg : w3.grownBy w4 (some (b + 1)) := ⟨ho4.os, ho4.tape, ho4.output, Nat.le_of_eq ho4.size.symm, fun k _ hne => ho4.block k (fun e => hne (by rw [e]))⟩
    refine World.ownsRow.kept hO3 hg ?_
    cases A2 with
    | none => simp [Value.ownBlock]
    | some a =>
      right
      intro e
      have h1 := (hO2.blk rfl).1
      simp only [Value.ownBlock, Option.some.injEq] at e
      have := hX1.lt
      omega
  have hB4 : Below b w w4 := ((hB.trans (hb2.mono (by omega))).trans (ho3.below (Nat.le_refl _))).trans (ho4.below (by omega))
  go_wp2_with fail
  refine bodyPost_ret (results_cell_row Try.results27 _ _ (b + 1) 62 (⟨x.f, x.t, A2, x.n, c2, x.u, x.b⟩ : Fl).cells (0, 0) _ (by rfl) hX5 Try.underlying62 (by rfl) (by kernel_rfl)) rfl ?_
  exact ⟨⟨A2, c2, rfl, hO4⟩, by first | exact hB4 | (rw [hb]; exact hB4)⟩
theorem OwnX.blkT {t : TypeId} {z base n c : Nat} {W : World} {A : Option Addr} {l : List (Array Value)} (h : OwnX t z base W A n c l) {a : Addr} (ha : A = some a) : ∃ cs, Blk W a.block cs t := by
  subst ha
  rcases h.1.2 with ⟨hv, _⟩ | ⟨g, cap, cur, hv, _, hg, _⟩
  · cases hv
  · injection hv with hv
    injection hv with hv
    subst hv
    exact ⟨cur, hg⟩
theorem OwnB.blkT {base n c : Nat} {W : World} {A : Option Addr} {l : List UInt8} (h : OwnB base W A n c l) {a : Addr} (ha : A = some a) : ∃ cs, Blk W a.block cs 5 := by
  subst ha
  rcases h.2 with ⟨hv, _⟩ | ⟨g, cap, cur, hv, _, hg, _⟩
  · cases hv
  · injection hv with hv
    injection hv with hv
    subst hv
    exact ⟨cur, hg⟩
theorem Blk.neT {W : World} {g k : Nat} {cs ds : Array Value} {t u : TypeId} (h : Blk W g cs t) (hk : Blk W k ds u) (hne : t ≠ u) : g ≠ k := by
  intro e
  subst e
  have h2 := h.symm.trans hk
  injection h2 with h2
  injection h2 with _ h2 _
  exact hne h2
theorem bsF (x : Fl) (w : World) : (Instr.buildSlice 55 1 #[(0, .agg x.cells)]).run Try.prog w = .ok (.slice (some ⟨w.heap.size, 0, none⟩) 1 1) (w.alloc (.cells x.cells 62)) := by
  obtain ⟨f, t, A, n, c, u, b⟩ := x
  kernel_rfl
theorem x_bsF {w : World} {ρ : Operand → Value} {d : Option Tmp} {i : Nat} {x : Fl} {ty : TypeId} {p : String} {af : Array Edge} {gd : Option (Nat × Bool)} (h : ρ (.tmp i) = .agg x.cells) : (execOp ρ ⟨d, .buildSlice 55 1 #[(0, .tmp i)], ty, p, af, gd⟩).run Try.prog w = .ok (.value (.slice (some ⟨w.heap.size, 0, none⟩) 1 1)) (w.alloc (.cells x.cells 62)) := by
  unfold execOp
  simp only [List.map_toArray, List.map_cons, List.map_nil, h, Sem.run_bind, bsF, Sem.run_pure, Result.andThen_ok]
theorem flEl_info : ElI tFl (.agg #[.int .i64 0, .int .i64 0, .slice none 0 0, .bool false]) 4 48 := by unfold ElI; kernel_rfl
theorem flEl_szd (l : List Fl) : Szd 4 (l.map Fl.cells) := fun cs hc => by
  obtain ⟨x, _, rfl⟩ := List.mem_map.1 hc
  rfl
/-- The flights' bytes stay, where a block that isn't theirs changes. -/
theorem byt_grown {base : Nat} {W W' : World} {l : List Fl} {r : Option Nat} (h : ∀ x, x ∈ l → OwnB base W x.A x.n x.c x.b) (hg : W.grownBy W' r) (hr : ∀ k, r = some k → ∃ cs t, Blk W k cs t ∧ t ≠ 5) : ∀ x, x ∈ l → OwnB base W' x.A x.n x.c x.b := by
  intro x hx
  have hO := h x hx
  refine World.ownsRow.kept hO hg ?_
  cases hA : x.A with
  | none => simp [Value.ownBlock]
  | some a =>
    right
    intro e
    simp only [Value.ownBlock] at e
    obtain ⟨cs, hb⟩ := hO.blkT hA
    obtain ⟨ds, t, hk, hne⟩ := hr a.block e.symm
    exact hb.neT hk (fun e => hne e.symm) rfl
theorem only_grown {g : Nat} {W W' : World} (h : Only1 g W W') : W.grownBy W' (some g) := ⟨h.os, h.tape, h.output, Nat.le_of_eq h.size.symm, fun k _ hne => h.block k (fun e => hne (by rw [e]))⟩
/-- What send answers: a copy at the end. -/
def SendP (base p : Nat) (A : Option Addr) (l : List Fl) (n : Nat) (x : Fl) (w : World) (e : Ending) (w' : World) : Prop := ∃ (A1 : Option Addr) (c1 : Nat) (A2 : Option Addr) (c2 : Nat), e = .returned (.int .i64 0) ∧ AirS base p A l w A1 (n + 1) c1 (l ++ [(⟨x.f, x.t, A2, x.n, c2, x.u, x.b⟩ : Fl)]) w'
set_option maxRecDepth 100000 in
set_option maxHeartbeats 4000000 in
theorem send_full (base p : Nat) (A : Option Addr) (c : Nat) (l : List Fl) (x : Fl) (w : World) (h : AirM base p w A 400 c l) : Calls Try.prog 22 #[.pointer (some ⟨p, 0, none⟩), .agg x.cells] w fun e w' => e = .returned (.int .i64 3) ∧ Below w.heap.size w w' := by
  have h1 := h.keep (b0 w (.cells x.cells 62))
  have c0 := h1.blk.cell 0
  clear h h1
  go_enter Try.func22, Try.ntmps22
  go_wp2_with fail
  go_ret
  exact ⟨rfl, b0 w _⟩
set_option maxRecDepth 100000 in
set_option maxHeartbeats 4000000 in
theorem send_any (base p : Nat) (A : Option Addr) (n c : Nat) (l : List Fl) (x : Fl) (w : World) (h : AirM base p w A n c l) (hn4 : n < 400) (hx : FlIn w x) (hbw : base ≤ w.heap.size) : Calls Try.prog 22 #[.pointer (some ⟨p, 0, none⟩), .agg x.cells] w (SendP base p A l n x w) := by
  have i1 : ((n : Int) == 400) = false := by rw [beq_eq_false_iff_ne]; omega
  have hX0 := blk_new w x.cells 62
  have hB := b0 w (.cells x.cells 62)
  have hzz : (w.alloc (.cells x.cells 62)).heap.size = w.heap.size + 1 := by simp
  have hM0 := h.keep (b0 w (.cells x.cells 62))
  have hx0 := hx.keep (b0 w (.cells x.cells 62))
  have c0 := hM0.blk.cell 0
  go_enter Try.func22, Try.ntmps22
  go_upto_region 3 with fail
  clear c0
  generalize (w.alloc (.cells x.cells 62)) = W0 at hX0 hB hzz hM0 hx0 ⊢
  generalize hb : w.heap.size = b at hX0 hB hzz hM0 hx0 ⊢
  have f0 : ∀ W, (fun W => (∃ cs, Blk W p cs tAir) ∧ Blk W b x.cells 62) W → _ := fun W _ => far0 W p
  have l1 : ∀ W, (fun W => (∃ cs, Blk W p cs tAir) ∧ Blk W b x.cells 62) W → _ := fun W h => ld_fl h.2
  have hM1 : AirM base p W0.drew A n c l := ⟨hM0.blk, hM0.row, hM0.byt, hM0.dis⟩
  refine fh_start (S := (fun W => (∃ cs, Blk W p cs tAir) ∧ Blk W b x.cells 62)) (by kernel_rfl) (⟨⟨_, hM0.blk⟩, hX0⟩) (fun hS => ?_)
  generalize ha : Act.mk _ _ = a0
  have hn : a0.tmps.size = 22 := by rw [← ha]; kernel_rfl
  have h0 : (fr a0 []).eval (.tmp 0) = .pointer (some ⟨p, 0, none⟩) := by rw [← ha]; kernel_rfl
  refine fh_know hn rfl h0 ?_
  clear h0
  have h3 : (fr a0 [(0, true, .pointer (some ⟨p, 0, none⟩))]).eval (.tmp 3) = .pointer (some ⟨b, 0, none⟩) := by rw [← ha]; kernel_rfl
  refine fh_know hn rfl h3 ?_
  clear h3
  refine h_mv 0 hn hS ?_
  refine h_mv 1 hn hS ?_
  refine h_nc 2 hn hS ?_
  refine h_fd 3 hn hS ?_
  refine h_ld 5 hn hS ?_
  refine fh_two (i := 4) (j := 6) (by kernel_rfl) ?_ ?_
  · refine one_valx (d := 15) (v := .slice A n c) (w2 := W0.drew) hn rfl (fun hk => x_ld (lk_at hk (i := 14) rfl (fun _ => rfl) rfl) (ld_air hM1.blk)) ⟨⟨_, hM1.blk⟩, hX0⟩ ?_ rfl rfl rfl
    refine fh_callx 6 (d := 17) (R := fun v w2 => ∃ A2 c2, v = .agg (⟨x.f, x.t, A2, x.n, c2, x.u, x.b⟩ : Fl).cells ∧ OwnB W0.heap.size w2 A2 x.n c2 x.b ∧ Below W0.heap.size W0 w2) hn rfl (fun hk => call1_is en_spinney_air_flight_copied _ _ _ _ _ _ _ _ (.agg x.cells) (lk_at hk (i := 16) rfl (fun _ => rfl) rfl) rfl) ((copied_any x W0.drew ⟨hx0.rd, hx0.len, hx0.nil, hx0.few⟩).mono fun _ _ ⟨⟨A2, c2, he, hO⟩, hb2⟩ => ⟨_, he, A2, c2, rfl, hO, bel_un29 hb2⟩) ?_ rfl rfl (by kernel_rfl) rfl
    rintro v w2 ⟨A2, c2, rfl, hO2, hb2⟩
    have hM2 := hM0.keep hb2
    have hX2 := hX0.keep hb2
    refine ⟨⟨⟨_, hM2.blk⟩, hX2⟩, ?_⟩
    have ba := b0 w2 (.cells ((⟨x.f, x.t, A2, x.n, c2, x.u, x.b⟩ : Fl)).cells 62)
    have hM3 := hM2.keep ba
    have hX3 := hX2.keep ba
    have hO3 := hO2.keep ba
    have hG3 := blk_new w2 ((⟨x.f, x.t, A2, x.n, c2, x.u, x.b⟩ : Fl)).cells 62
    refine fh_valx 7 (d := 18) hn rfl (fun hk => x_bsF (x := (⟨x.f, x.t, A2, x.n, c2, x.u, x.b⟩ : Fl)) (lk_at hk (i := 17) rfl (fun _ => rfl) rfl)) ⟨⟨_, hM3.blk⟩, hX3⟩ ?_ rfl rfl (by kernel_rfl) rfl
    have hB3 : Below W0.heap.size W0 (w2.alloc (.cells ((⟨x.f, x.t, A2, x.n, c2, x.u, x.b⟩ : Fl)).cells 62)) := hb2.trans (ba.mono hb2.size)
    generalize w2.alloc (.cells ((⟨x.f, x.t, A2, x.n, c2, x.u, x.b⟩ : Fl)).cells 62) = w3 at hM3 hX3 hO3 hG3 hB3 ba ⊢
    generalize w2.heap.size = g3 at hG3 ⊢
    obtain ⟨j0, hj0, hj1, hj2, hj3⟩ := info_parts flEl_info
    obtain ⟨A4, c4, w4, hr4, hO4, hb4, hA4, hst4, hwh4⟩ := run_apM (P := Try.prog) (ty := 55) (base := base) (ad := ⟨g3, 0, none⟩) (m := 1) (d := 1) (xs := [((⟨x.f, x.t, A2, x.n, c2, x.u, x.b⟩ : Fl)).cells]) w3 Try.underlying55 Try.underlying55 hj0 hj1 hj2 hj3 rfl (by decide) (by decide) hM3.row (flEl_szd [(⟨x.f, x.t, A2, x.n, c2, x.u, x.b⟩ : Fl)]) rfl (fun y hy u hu => by
      rw [List.mem_singleton] at hy
      subst hy
      have h3 := fl_oneC (⟨x.f, x.t, A2, x.n, c2, x.u, x.b⟩ : Fl)
      rw [Array.all_eq_true'] at h3
      exact h3 u (by simpa using hu)) (blk_rdC hG3) (by omega) (by have := hB3.size; omega) (.inr (by decide))
    have hgr : w3.grownBy w4 (A.map (·.block)) := ⟨hb4.os, hb4.tape, hb4.output, hb4.size, fun k hk hne => hst4 k hk (fun a ha e => hne (by rw [ha, ← e]; rfl))⟩
    have hpA : ∀ a, A = some a → a.block ≠ p := fun a ha => by
      obtain ⟨cs, hcs⟩ := hM3.row.blkT ha
      exact hcs.neT hM3.blk (by decide)
    have hbA : ∀ a, A = some a → a.block ≠ b := fun a ha => by
      have h1 := (h.row.blk ha).2
      omega
    have hP4 : Blk w4 p #[.slice A n c] tAir := (hst4 p hM3.blk.lt hpA).trans hM3.blk
    have hX4 : Blk w4 b x.cells 62 := (hst4 b hX3.lt hbA).trans hX3
    have hrow : ∀ k, A.map (·.block) = some k → ∃ cs t, Blk w3 k cs t ∧ t ≠ 5 := fun k hk => by
      cases hA : A with
      | none => rw [hA] at hk; cases hk
      | some a =>
        rw [hA] at hk
        injection hk with hk
        obtain ⟨cs, hcs⟩ := hM3.row.blkT hA
        exact ⟨cs, tFl, by rw [← hk]; exact hcs, by decide⟩
    have hY4 := byt_grown hM3.byt hgr hrow
    have hN4 : OwnB W0.heap.size w4 A2 x.n c2 x.b := by
      have h5 := byt_grown (base := W0.heap.size) (l := [(⟨x.f, x.t, A2, x.n, c2, x.u, x.b⟩ : Fl)]) (W := w3) (fun y hy => by rw [List.mem_singleton] at hy; subst hy; exact hO3) hgr hrow
      exact h5 _ (List.mem_singleton_self _)
    have hS4 : (fun W => (∃ cs, Blk W p cs tAir) ∧ Blk W b x.cells 62) w4 := ⟨⟨_, hP4⟩, hX4⟩
    refine fh_valx 8 (d := 19) hn rfl (fun hk => x_ap (lk_at hk (i := 15) rfl (fun _ => rfl) rfl) (lk_at hk (i := 18) rfl (fun _ => rfl) rfl) hr4) hS4 ?_ rfl rfl (by kernel_rfl) rfl
    refine h_nc 9 hn hS4 ?_
    refine h_fd 10 hn hS4 ?_
    have ho5 := only_cell w4 p 0 (.slice A4 (n + 1) c4)
    have hP5 : Blk (w4.setCell ⟨p, 0, none⟩ (.slice A4 (n + 1) c4)) p #[.slice A4 (n + 1) c4] tAir := hP4.set 0 (.slice A4 (n + 1) c4)
    have hbp : b ≠ p := by
      have h1 := h.blk.lt
      omega
    refine h_st 11 (st_sf (j := 0) hP4 (by simp) A4 (n + 1) c4) ⟨⟨_, hP5⟩, hX4.only ho5 hbp⟩ ?_
    refine fh_end (by kernel_rfl) ?_
    clear hn f0 l1
    subst ha
    dsimp only [fr, cnd, Act.put, cond_true]
    simp only [List.setIfInBounds_toArray, List.set_cons_zero, List.set_cons_succ]
    generalize w4.setCell ⟨p, 0, none⟩ (.slice A4 (n + 1) c4) = w5 at hP5 ho5 ⊢
    have hg5 := only_grown ho5
    have hp5 : ∀ k, some p = some k → ∃ cs t, Blk w4 k cs t ∧ t ≠ 5 := fun k hk => by
      injection hk with hk
      exact ⟨_, tAir, by rw [← hk]; exact hP4, by decide⟩
    have hY5 := byt_grown hY4 hg5 hp5
    have hN5 : OwnB W0.heap.size w5 A2 x.n c2 x.b := (byt_grown (base := W0.heap.size) (l := [(⟨x.f, x.t, A2, x.n, c2, x.u, x.b⟩ : Fl)]) (W := w4) (fun y hy => by rw [List.mem_singleton] at hy; subst hy; exact hN4) hg5 hp5) _ (List.mem_singleton_self _)
    have hR5 : OwnX tFl 4 base w5 A4 (n + 1) c4 ((l ++ [(⟨x.f, x.t, A2, x.n, c2, x.u, x.b⟩ : Fl)]).map Fl.cells) := by
      rw [List.map_append]
      refine ⟨World.ownsRow.kept hO4.1 hg5 ?_, hO4.2⟩
      cases hA : A4 with
      | none => simp [Value.ownBlock]
      | some a =>
        right
        intro e
        simp only [Value.ownBlock, Option.some.injEq] at e
        obtain ⟨cs, hcs⟩ := hO4.blkT hA
        exact hcs.neT hP4 (by decide) e
    have hsz := hB.size
    have hs3 := hB3.size
    have hs4 := hb4.size
    have hs5 := ho5.size
    have hbz : W0.heap.size = b + 1 := hzz.symm.trans rfl |>.trans hzz |> fun _ => by omega
    have hfin : AirS base p A l w A4 (n + 1) c4 (l ++ [(⟨x.f, x.t, A2, x.n, c2, x.u, x.b⟩ : Fl)]) w5 := by
      refine ⟨⟨hP5, hR5, fun y hy => ?_, ?_⟩, ?_, ?_, ?_, by omega, fun k hk hno => ?_, fun k hk ho => ?_⟩
      · rcases List.mem_append.1 hy with hy | hy
        · exact hY5 y hy
        · rw [List.mem_singleton] at hy
          subst hy
          exact hN5.less (by omega)
      · refine List.pairwise_append.2 ⟨h.dis, List.pairwise_singleton .., fun y hy z hz a a' ha ha' e => ?_⟩
        rw [List.mem_singleton] at hz
        subst hz
        have h1 := ((h.byt y hy).blk ha).2
        have h2 := (hN5.blk ha').1
        omega
      · exact ho5.os.trans (hb4.os.trans (hB3.os.trans hB.os))
      · exact ho5.tape.trans (hb4.tape.trans (hB3.tape.trans hB.tape))
      · exact ho5.output.trans (hb4.output.trans (hB3.output.trans hB.output))
      · rw [ho5.block k (fun e => hno (.inl e)), hst4 k (by omega) (fun a ha e => hno (.inr (.inl ⟨a, ha, e⟩))), hB3.block k (by omega)]
        exact hB.block k (by omega)
      · rcases ho with rfl | ⟨a, ha, rfl⟩ | ⟨y, hy, a, ha, rfl⟩
        · exact .inl rfl
        · rcases hwh4 with e | e
          · rw [ha] at e
            cases hA : A with
            | none => rw [hA] at e; cases e
            | some a0 =>
              rw [hA] at e
              have e2 : a.block = a0.block := by injection e
              exact .inr (.inl ⟨a0, rfl, e2.symm⟩)
          · rw [ha] at e
            have e2 : a.block = w3.heap.size := by injection e
            omega
        · rcases List.mem_append.1 hy with hy | hy
          · exact .inr (.inr ⟨y, hy, a, ha, rfl⟩)
          · rw [List.mem_singleton] at hy
            subst hy
            have h2 := (hN5.blk ha).1
            omega
    go_wp2_with fail
    go_ret
    exact ⟨A4, c4, A2, c2, rfl, hfin⟩
  · refine one_callx29 (d := 17) (R := fun v w2 => ∃ A2 c2, v = .agg (⟨x.f, x.t, A2, x.n, c2, x.u, x.b⟩ : Fl).cells ∧ OwnB W0.heap.size w2 A2 x.n c2 x.b ∧ Below W0.heap.size W0 w2) hn rfl (fun hk => call1_is en_spinney_air_flight_copied _ _ _ _ _ _ _ _ (.agg x.cells) (lk_at hk (i := 16) rfl (fun _ => rfl) rfl) rfl) ((copied_any x W0.drew ⟨hx0.rd, hx0.len, hx0.nil, hx0.few⟩).mono fun _ _ ⟨⟨A2, c2, he, hO⟩, hb2⟩ => ⟨_, he, A2, c2, rfl, hO, bel_un29 hb2⟩) ?_ rfl rfl rfl
    rintro v w2 ⟨A2, c2, rfl, hO2, hb2⟩
    have hM2 := hM0.keep hb2
    have hX2 := hX0.keep hb2
    refine ⟨⟨⟨_, hM2.blk⟩, hX2⟩, ?_⟩
    refine fh_two (i := 4) (j := 7) (by kernel_rfl) ?_ ?_
    · refine one_valx (d := 15) (v := .slice A n c) (w2 := w2) hn rfl (fun hk => x_ld (lk_at hk (i := 14) rfl (fun _ => rfl) rfl) (ld_air hM2.blk)) ⟨⟨_, hM2.blk⟩, hX2⟩ ?_ rfl rfl rfl
      have ba := b0 w2 (.cells ((⟨x.f, x.t, A2, x.n, c2, x.u, x.b⟩ : Fl)).cells 62)
      have hM3 := hM2.keep ba
      have hX3 := hX2.keep ba
      have hO3 := hO2.keep ba
      have hG3 := blk_new w2 ((⟨x.f, x.t, A2, x.n, c2, x.u, x.b⟩ : Fl)).cells 62
      refine fh_valx 7 (d := 18) hn rfl (fun hk => x_bsF (x := (⟨x.f, x.t, A2, x.n, c2, x.u, x.b⟩ : Fl)) (lk_at hk (i := 17) rfl (fun _ => rfl) rfl)) ⟨⟨_, hM3.blk⟩, hX3⟩ ?_ rfl rfl (by kernel_rfl) rfl
      have hB3 : Below W0.heap.size W0 (w2.alloc (.cells ((⟨x.f, x.t, A2, x.n, c2, x.u, x.b⟩ : Fl)).cells 62)) := hb2.trans (ba.mono hb2.size)
      generalize w2.alloc (.cells ((⟨x.f, x.t, A2, x.n, c2, x.u, x.b⟩ : Fl)).cells 62) = w3 at hM3 hX3 hO3 hG3 hB3 ba ⊢
      generalize w2.heap.size = g3 at hG3 ⊢
      obtain ⟨j0, hj0, hj1, hj2, hj3⟩ := info_parts flEl_info
      obtain ⟨A4, c4, w4, hr4, hO4, hb4, hA4, hst4, hwh4⟩ := run_apM (P := Try.prog) (ty := 55) (base := base) (ad := ⟨g3, 0, none⟩) (m := 1) (d := 1) (xs := [((⟨x.f, x.t, A2, x.n, c2, x.u, x.b⟩ : Fl)).cells]) w3 Try.underlying55 Try.underlying55 hj0 hj1 hj2 hj3 rfl (by decide) (by decide) hM3.row (flEl_szd [(⟨x.f, x.t, A2, x.n, c2, x.u, x.b⟩ : Fl)]) rfl (fun y hy u hu => by
        rw [List.mem_singleton] at hy
        subst hy
        have h3 := fl_oneC (⟨x.f, x.t, A2, x.n, c2, x.u, x.b⟩ : Fl)
        rw [Array.all_eq_true'] at h3
        exact h3 u (by simpa using hu)) (blk_rdC hG3) (by omega) (by have := hB3.size; omega) (.inr (by decide))
      have hgr : w3.grownBy w4 (A.map (·.block)) := ⟨hb4.os, hb4.tape, hb4.output, hb4.size, fun k hk hne => hst4 k hk (fun a ha e => hne (by rw [ha, ← e]; rfl))⟩
      have hpA : ∀ a, A = some a → a.block ≠ p := fun a ha => by
        obtain ⟨cs, hcs⟩ := hM3.row.blkT ha
        exact hcs.neT hM3.blk (by decide)
      have hbA : ∀ a, A = some a → a.block ≠ b := fun a ha => by
        have h1 := (h.row.blk ha).2
        omega
      have hP4 : Blk w4 p #[.slice A n c] tAir := (hst4 p hM3.blk.lt hpA).trans hM3.blk
      have hX4 : Blk w4 b x.cells 62 := (hst4 b hX3.lt hbA).trans hX3
      have hrow : ∀ k, A.map (·.block) = some k → ∃ cs t, Blk w3 k cs t ∧ t ≠ 5 := fun k hk => by
        cases hA : A with
        | none => rw [hA] at hk; cases hk
        | some a =>
          rw [hA] at hk
          injection hk with hk
          obtain ⟨cs, hcs⟩ := hM3.row.blkT hA
          exact ⟨cs, tFl, by rw [← hk]; exact hcs, by decide⟩
      have hY4 := byt_grown hM3.byt hgr hrow
      have hN4 : OwnB W0.heap.size w4 A2 x.n c2 x.b := by
        have h5 := byt_grown (base := W0.heap.size) (l := [(⟨x.f, x.t, A2, x.n, c2, x.u, x.b⟩ : Fl)]) (W := w3) (fun y hy => by rw [List.mem_singleton] at hy; subst hy; exact hO3) hgr hrow
        exact h5 _ (List.mem_singleton_self _)
      have hS4 : (fun W => (∃ cs, Blk W p cs tAir) ∧ Blk W b x.cells 62) w4 := ⟨⟨_, hP4⟩, hX4⟩
      refine fh_valx 8 (d := 19) hn rfl (fun hk => x_ap (lk_at hk (i := 15) rfl (fun _ => rfl) rfl) (lk_at hk (i := 18) rfl (fun _ => rfl) rfl) hr4) hS4 ?_ rfl rfl (by kernel_rfl) rfl
      refine h_nc 9 hn hS4 ?_
      refine h_fd 10 hn hS4 ?_
      have ho5 := only_cell w4 p 0 (.slice A4 (n + 1) c4)
      have hP5 : Blk (w4.setCell ⟨p, 0, none⟩ (.slice A4 (n + 1) c4)) p #[.slice A4 (n + 1) c4] tAir := hP4.set 0 (.slice A4 (n + 1) c4)
      have hbp : b ≠ p := by
        have h1 := h.blk.lt
        omega
      refine h_st 11 (st_sf (j := 0) hP4 (by simp) A4 (n + 1) c4) ⟨⟨_, hP5⟩, hX4.only ho5 hbp⟩ ?_
      refine fh_end (by kernel_rfl) ?_
      clear hn f0 l1
      subst ha
      dsimp only [fr, cnd, Act.put, cond_true]
      simp only [List.setIfInBounds_toArray, List.set_cons_zero, List.set_cons_succ]
      generalize w4.setCell ⟨p, 0, none⟩ (.slice A4 (n + 1) c4) = w5 at hP5 ho5 ⊢
      have hg5 := only_grown ho5
      have hp5 : ∀ k, some p = some k → ∃ cs t, Blk w4 k cs t ∧ t ≠ 5 := fun k hk => by
        injection hk with hk
        exact ⟨_, tAir, by rw [← hk]; exact hP4, by decide⟩
      have hY5 := byt_grown hY4 hg5 hp5
      have hN5 : OwnB W0.heap.size w5 A2 x.n c2 x.b := (byt_grown (base := W0.heap.size) (l := [(⟨x.f, x.t, A2, x.n, c2, x.u, x.b⟩ : Fl)]) (W := w4) (fun y hy => by rw [List.mem_singleton] at hy; subst hy; exact hN4) hg5 hp5) _ (List.mem_singleton_self _)
      have hR5 : OwnX tFl 4 base w5 A4 (n + 1) c4 ((l ++ [(⟨x.f, x.t, A2, x.n, c2, x.u, x.b⟩ : Fl)]).map Fl.cells) := by
        rw [List.map_append]
        refine ⟨World.ownsRow.kept hO4.1 hg5 ?_, hO4.2⟩
        cases hA : A4 with
        | none => simp [Value.ownBlock]
        | some a =>
          right
          intro e
          simp only [Value.ownBlock, Option.some.injEq] at e
          obtain ⟨cs, hcs⟩ := hO4.blkT hA
          exact hcs.neT hP4 (by decide) e
      have hsz := hB.size
      have hs3 := hB3.size
      have hs4 := hb4.size
      have hs5 := ho5.size
      have hbz : W0.heap.size = b + 1 := hzz.symm.trans rfl |>.trans hzz |> fun _ => by omega
      have hfin : AirS base p A l w A4 (n + 1) c4 (l ++ [(⟨x.f, x.t, A2, x.n, c2, x.u, x.b⟩ : Fl)]) w5 := by
        refine ⟨⟨hP5, hR5, fun y hy => ?_, ?_⟩, ?_, ?_, ?_, by omega, fun k hk hno => ?_, fun k hk ho => ?_⟩
        · rcases List.mem_append.1 hy with hy | hy
          · exact hY5 y hy
          · rw [List.mem_singleton] at hy
            subst hy
            exact hN5.less (by omega)
        · refine List.pairwise_append.2 ⟨h.dis, List.pairwise_singleton .., fun y hy z hz a a' ha ha' e => ?_⟩
          rw [List.mem_singleton] at hz
          subst hz
          have h1 := ((h.byt y hy).blk ha).2
          have h2 := (hN5.blk ha').1
          omega
        · exact ho5.os.trans (hb4.os.trans (hB3.os.trans hB.os))
        · exact ho5.tape.trans (hb4.tape.trans (hB3.tape.trans hB.tape))
        · exact ho5.output.trans (hb4.output.trans (hB3.output.trans hB.output))
        · rw [ho5.block k (fun e => hno (.inl e)), hst4 k (by omega) (fun a ha e => hno (.inr (.inl ⟨a, ha, e⟩))), hB3.block k (by omega)]
          exact hB.block k (by omega)
        · rcases ho with rfl | ⟨a, ha, rfl⟩ | ⟨y, hy, a, ha, rfl⟩
          · exact .inl rfl
          · rcases hwh4 with e | e
            · rw [ha] at e
              cases hA : A with
              | none => rw [hA] at e; cases e
              | some a0 =>
                rw [hA] at e
                have e2 : a.block = a0.block := by injection e
                exact .inr (.inl ⟨a0, rfl, e2.symm⟩)
            · rw [ha] at e
              have e2 : a.block = w3.heap.size := by injection e
              omega
          · rcases List.mem_append.1 hy with hy | hy
            · exact .inr (.inr ⟨y, hy, a, ha, rfl⟩)
            · rw [List.mem_singleton] at hy
              subst hy
              have h2 := (hN5.blk ha).1
              omega
      go_wp2_with fail
      go_ret
      exact ⟨A4, c4, A2, c2, rfl, hfin⟩
    · have ba := b0 w2 (.cells ((⟨x.f, x.t, A2, x.n, c2, x.u, x.b⟩ : Fl)).cells 62)
      have hM3 := hM2.keep ba
      have hX3 := hX2.keep ba
      have hO3 := hO2.keep ba
      have hG3 := blk_new w2 ((⟨x.f, x.t, A2, x.n, c2, x.u, x.b⟩ : Fl)).cells 62
      refine one_valx (d := 18) hn rfl (fun hk => x_bsF (x := (⟨x.f, x.t, A2, x.n, c2, x.u, x.b⟩ : Fl)) (lk_at hk (i := 17) rfl (fun _ => rfl) rfl)) ⟨⟨_, hM3.blk⟩, hX3⟩ ?_ rfl rfl rfl
      have hB3 : Below W0.heap.size W0 (w2.alloc (.cells ((⟨x.f, x.t, A2, x.n, c2, x.u, x.b⟩ : Fl)).cells 62)) := hb2.trans (ba.mono hb2.size)
      generalize w2.alloc (.cells ((⟨x.f, x.t, A2, x.n, c2, x.u, x.b⟩ : Fl)).cells 62) = w3 at hM3 hX3 hO3 hG3 hB3 ba ⊢
      generalize w2.heap.size = g3 at hG3 ⊢
      refine h_one 4 (v := .slice A n c) hn ⟨⟨_, hM3.blk⟩, hX3⟩ (fun hk => x_ld (lk_at hk (i := 14) rfl (fun _ => rfl) rfl) (ld_air hM3.blk)) ?_
      obtain ⟨j0, hj0, hj1, hj2, hj3⟩ := info_parts flEl_info
      obtain ⟨A4, c4, w4, hr4, hO4, hb4, hA4, hst4, hwh4⟩ := run_apM (P := Try.prog) (ty := 55) (base := base) (ad := ⟨g3, 0, none⟩) (m := 1) (d := 1) (xs := [((⟨x.f, x.t, A2, x.n, c2, x.u, x.b⟩ : Fl)).cells]) w3 Try.underlying55 Try.underlying55 hj0 hj1 hj2 hj3 rfl (by decide) (by decide) hM3.row (flEl_szd [(⟨x.f, x.t, A2, x.n, c2, x.u, x.b⟩ : Fl)]) rfl (fun y hy u hu => by
        rw [List.mem_singleton] at hy
        subst hy
        have h3 := fl_oneC (⟨x.f, x.t, A2, x.n, c2, x.u, x.b⟩ : Fl)
        rw [Array.all_eq_true'] at h3
        exact h3 u (by simpa using hu)) (blk_rdC hG3) (by omega) (by have := hB3.size; omega) (.inr (by decide))
      have hgr : w3.grownBy w4 (A.map (·.block)) := ⟨hb4.os, hb4.tape, hb4.output, hb4.size, fun k hk hne => hst4 k hk (fun a ha e => hne (by rw [ha, ← e]; rfl))⟩
      have hpA : ∀ a, A = some a → a.block ≠ p := fun a ha => by
        obtain ⟨cs, hcs⟩ := hM3.row.blkT ha
        exact hcs.neT hM3.blk (by decide)
      have hbA : ∀ a, A = some a → a.block ≠ b := fun a ha => by
        have h1 := (h.row.blk ha).2
        omega
      have hP4 : Blk w4 p #[.slice A n c] tAir := (hst4 p hM3.blk.lt hpA).trans hM3.blk
      have hX4 : Blk w4 b x.cells 62 := (hst4 b hX3.lt hbA).trans hX3
      have hrow : ∀ k, A.map (·.block) = some k → ∃ cs t, Blk w3 k cs t ∧ t ≠ 5 := fun k hk => by
        cases hA : A with
        | none => rw [hA] at hk; cases hk
        | some a =>
          rw [hA] at hk
          injection hk with hk
          obtain ⟨cs, hcs⟩ := hM3.row.blkT hA
          exact ⟨cs, tFl, by rw [← hk]; exact hcs, by decide⟩
      have hY4 := byt_grown hM3.byt hgr hrow
      have hN4 : OwnB W0.heap.size w4 A2 x.n c2 x.b := by
        have h5 := byt_grown (base := W0.heap.size) (l := [(⟨x.f, x.t, A2, x.n, c2, x.u, x.b⟩ : Fl)]) (W := w3) (fun y hy => by rw [List.mem_singleton] at hy; subst hy; exact hO3) hgr hrow
        exact h5 _ (List.mem_singleton_self _)
      have hS4 : (fun W => (∃ cs, Blk W p cs tAir) ∧ Blk W b x.cells 62) w4 := ⟨⟨_, hP4⟩, hX4⟩
      refine fh_valx 8 (d := 19) hn rfl (fun hk => x_ap (lk_at hk (i := 15) rfl (fun _ => rfl) rfl) (lk_at hk (i := 18) rfl (fun _ => rfl) rfl) hr4) hS4 ?_ rfl rfl (by kernel_rfl) rfl
      refine h_nc 9 hn hS4 ?_
      refine h_fd 10 hn hS4 ?_
      have ho5 := only_cell w4 p 0 (.slice A4 (n + 1) c4)
      have hP5 : Blk (w4.setCell ⟨p, 0, none⟩ (.slice A4 (n + 1) c4)) p #[.slice A4 (n + 1) c4] tAir := hP4.set 0 (.slice A4 (n + 1) c4)
      have hbp : b ≠ p := by
        have h1 := h.blk.lt
        omega
      refine h_st 11 (st_sf (j := 0) hP4 (by simp) A4 (n + 1) c4) ⟨⟨_, hP5⟩, hX4.only ho5 hbp⟩ ?_
      refine fh_end (by kernel_rfl) ?_
      clear hn f0 l1
      subst ha
      dsimp only [fr, cnd, Act.put, cond_true]
      simp only [List.setIfInBounds_toArray, List.set_cons_zero, List.set_cons_succ]
      generalize w4.setCell ⟨p, 0, none⟩ (.slice A4 (n + 1) c4) = w5 at hP5 ho5 ⊢
      have hg5 := only_grown ho5
      have hp5 : ∀ k, some p = some k → ∃ cs t, Blk w4 k cs t ∧ t ≠ 5 := fun k hk => by
        injection hk with hk
        exact ⟨_, tAir, by rw [← hk]; exact hP4, by decide⟩
      have hY5 := byt_grown hY4 hg5 hp5
      have hN5 : OwnB W0.heap.size w5 A2 x.n c2 x.b := (byt_grown (base := W0.heap.size) (l := [(⟨x.f, x.t, A2, x.n, c2, x.u, x.b⟩ : Fl)]) (W := w4) (fun y hy => by rw [List.mem_singleton] at hy; subst hy; exact hN4) hg5 hp5) _ (List.mem_singleton_self _)
      have hR5 : OwnX tFl 4 base w5 A4 (n + 1) c4 ((l ++ [(⟨x.f, x.t, A2, x.n, c2, x.u, x.b⟩ : Fl)]).map Fl.cells) := by
        rw [List.map_append]
        refine ⟨World.ownsRow.kept hO4.1 hg5 ?_, hO4.2⟩
        cases hA : A4 with
        | none => simp [Value.ownBlock]
        | some a =>
          right
          intro e
          simp only [Value.ownBlock, Option.some.injEq] at e
          obtain ⟨cs, hcs⟩ := hO4.blkT hA
          exact hcs.neT hP4 (by decide) e
      have hsz := hB.size
      have hs3 := hB3.size
      have hs4 := hb4.size
      have hs5 := ho5.size
      have hbz : W0.heap.size = b + 1 := hzz.symm.trans rfl |>.trans hzz |> fun _ => by omega
      have hfin : AirS base p A l w A4 (n + 1) c4 (l ++ [(⟨x.f, x.t, A2, x.n, c2, x.u, x.b⟩ : Fl)]) w5 := by
        refine ⟨⟨hP5, hR5, fun y hy => ?_, ?_⟩, ?_, ?_, ?_, by omega, fun k hk hno => ?_, fun k hk ho => ?_⟩
        · rcases List.mem_append.1 hy with hy | hy
          · exact hY5 y hy
          · rw [List.mem_singleton] at hy
            subst hy
            exact hN5.less (by omega)
        · refine List.pairwise_append.2 ⟨h.dis, List.pairwise_singleton .., fun y hy z hz a a' ha ha' e => ?_⟩
          rw [List.mem_singleton] at hz
          subst hz
          have h1 := ((h.byt y hy).blk ha).2
          have h2 := (hN5.blk ha').1
          omega
        · exact ho5.os.trans (hb4.os.trans (hB3.os.trans hB.os))
        · exact ho5.tape.trans (hb4.tape.trans (hB3.tape.trans hB.tape))
        · exact ho5.output.trans (hb4.output.trans (hB3.output.trans hB.output))
        · rw [ho5.block k (fun e => hno (.inl e)), hst4 k (by omega) (fun a ha e => hno (.inr (.inl ⟨a, ha, e⟩))), hB3.block k (by omega)]
          exact hB.block k (by omega)
        · rcases ho with rfl | ⟨a, ha, rfl⟩ | ⟨y, hy, a, ha, rfl⟩
          · exact .inl rfl
          · rcases hwh4 with e | e
            · rw [ha] at e
              cases hA : A with
              | none => rw [hA] at e; cases e
              | some a0 =>
                rw [hA] at e
                have e2 : a.block = a0.block := by injection e
                exact .inr (.inl ⟨a0, rfl, e2.symm⟩)
            · rw [ha] at e
              have e2 : a.block = w3.heap.size := by injection e
              omega
          · rcases List.mem_append.1 hy with hy | hy
            · exact .inr (.inr ⟨y, hy, a, ha, rfl⟩)
            · rw [List.mem_singleton] at hy
              subst hy
              have h2 := (hN5.blk ha).1
              omega
      go_wp2_with fail
      go_ret
      exact ⟨A4, c4, A2, c2, rfl, hfin⟩
end Go.Proofs.Ytdfifcgpjeojlaa
