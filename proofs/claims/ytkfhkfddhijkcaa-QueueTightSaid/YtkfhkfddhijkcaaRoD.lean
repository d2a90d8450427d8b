/-
  WHAT IS PROVED: roster's Of, and the document's. Conditions: those typed in each theorem.
-/
import Derived.Test.YtkfhkfddhijkcaaRoB
import Derived.Test.YtkfhkfddhijkcaaWrIx
namespace Go.Proofs.Ytkfhkfddhijkcaa
open Go.RowKit

/-- Lasts with a write's. -/
def ofS (l : List Int) (x : Wr) : List Int := bif nodeB x.dev then l.set x.dev.toNat (max (gI l x.dev.toNat) x.seq) else l
def ofL (l : List Int) (ws : List Wr) : List Int := ws.foldl ofS l
theorem ofS_len {l : List Int} (h : l.length = 12) (x : Wr) : (ofS l x).length = 12 := by
  unfold ofS
  cases nodeB x.dev with
  | false => exact h
  | true => show (l.set _ _).length = 12; rw [List.length_set]; exact h
theorem ofL_len {l : List Int} (h : l.length = 12) (ws : List Wr) : (ofL l ws).length = 12 := by
  unfold ofL
  induction ws generalizing l with
  | nil => exact h
  | cons x r ih => exact ih (ofS_len h x)
theorem ofL_next (l : List Int) {ws : List Wr} {k : Nat} {x : Wr} (hx : ws[k]? = some x) : ofL l (ws.take (k + 1)) = ofS (ofL l (ws.take k)) x := by
  unfold ofL
  rw [List.take_add_one, hx, List.foldl_append]
  rfl
theorem ofS_no {l : List Int} {x : Wr} (h : nodeB x.dev = false) : ofS l x = l := by unfold ofS; rw [h]; rfl
theorem ofS_yes {l : List Int} {x : Wr} {d : Nat} (h : d < 12) (e : x.dev = (d : Int)) : ofS l x = l.set d (max (gI l d) x.seq) := by
  unfold ofS nodeB
  rw [e, decide_eq_true (by omega), decide_eq_true (by omega), Int.toNat_natCast]
  rfl
theorem nodeB_nat {n : Int} (h : nodeB n = true) : ∃ d : Nat, d < 12 ∧ n = (d : Int) := by
  unfold nodeB at h
  have h2 : 0 ≤ n ∧ n < 12 := by simpa using h
  exact ⟨n.toNat, by omega, by omega⟩
theorem li_st {T : TypeId} {W : World} {b j : Nat} {l : List Int} (hX : Blk W b (liA l) T) (hj : j < l.length) (v : Int) : (Instr.storeAt 3 (.pointer (some ⟨b, j, none⟩)) (.int .i64 v)).run Try.prog W = .ok () (W.setCell ⟨b, j, none⟩ (.int .i64 v)) := by
  have q := li_cell hX hj
  have hf := hX.free j
  clear hX
  go_simp
theorem x_maxI {w : World} {ρ : Operand → Value} {d : Option Tmp} {ty : TypeId} {p : String} {af : Array Edge} {gd : Option (Nat × Bool)} {i j : Nat} {x y : Int} (h : ρ (.tmp i) = .int .i64 x) (h2 : ρ (.tmp j) = .int .i64 y) : (execOp ρ ⟨d, .call { callee := .builtin .max, args := #[.tmp i, .tmp j], argTypes := #[3, 3] }, ty, p, af, gd⟩).run Try.prog w = .ok (.value (.int .i64 (max x y))) w := by
  have mx := run_max w x y #[3, 3] ty rfl
  unfold execOp
  dsimp only
  go_simp
set_option maxRecDepth 100000 in
set_option maxHeartbeats 4000000 in
theorem of_any {C : Nat} (l : List Int) (A : Option Addr) (n c : Nat) (ws : List Wr) (w : World) (hl : l.length = 12) (hn0 : ws.length = n) (hr : RdW C w A ws) (hC : C ≤ w.heap.size) (hm : n ≤ 1000000) : Calls Try.prog 107 #[.agg (liA l), .slice A n c] w fun e w' => e = .returned (.agg (liA (ofL l ws))) ∧ Below w.heap.size w w' := by
  have HN := Lib.hid hn0
  have HR := Lib.hid (fun W hb => hr.keep (W' := W) hb hC)
  clear hn0 hr
  have hX0 := blk_new w (liA l) 29
  replace hX0 := hX0.alloc (.cells (laI 0 0 0 0 0 0 0 0 0 0 0 0) 29)
  have hz1 : (w.alloc (.cells (liA l) 29)).heap.size = w.heap.size + 1 := by simp
  have hX1 := blk_new (w.alloc (.cells (liA l) 29)) (laI 0 0 0 0 0 0 0 0 0 0 0 0) 29
  rw [hz1] at hX1
  have hB := ba (b0 w (.cells (liA l) 29)) (.cells (laI 0 0 0 0 0 0 0 0 0 0 0 0) 29)
  have hzz : ((w.alloc (.cells (liA l) 29)).alloc (.cells (laI 0 0 0 0 0 0 0 0 0 0 0 0) 29)).heap.size = w.heap.size + 2 := by simp
  go_enter Try.func107, Try.ntmps107
  go_upto_region 1 with fail
  generalize ((w.alloc (.cells (liA l) 29)).alloc (.cells (laI 0 0 0 0 0 0 0 0 0 0 0 0) 29)) = W0 at hX0 hX1 hB hzz ⊢
  (try simp only [hz1])
  clear hz1
  generalize hb : w.heap.size = b at hX0 hX1 hB hzz ⊢
  go_wp2_with fail
  go_loopw [6, 9] (fun _ i wr => ∃ k : Nat, k ≤ n ∧ i = .int .i64 k ∧ Blk wr b (liA (ofL l (ws.take k))) 29 ∧ Blk wr (b + 1) (laI 0 0 0 0 0 0 0 0 0 0 0 0) 29 ∧ Below b w wr) (fun _ i _ => n - (intOf i).toNat)
  case atStart => exact ⟨0, Nat.zero_le _, rfl, by rw [List.take_zero]; exact hX0, hX1, hB⟩
  case round =>
    clear hX0 hX1 hB
    obtain ⟨k, hk, rfl, hX0, hX1, hB⟩ := hrel
    by_cases hlt : k < n
    · obtain ⟨x, hx⟩ : ∃ x, ws[k]? = some x := ⟨_, List.getElem?_eq_getElem (show k < ws.length by have := HN.out; omega)⟩
      obtain ⟨ad, rfl, hadb, hc⟩ := HR.out wr (by rw [hb]; exact hB) k x hx
      have HX := Lib.hid (ofL_next l hx)
      have hL12 := ofL_len hl (ws.take k)
      clear hx
      have i2 : (k : Int) < (n : Int) := by omega
      have ix := wix wr ad n c k hlt
      have ld := wld hc
      go_upto_region 3 with fail
      refine wp_region_lit ?_
      refine fl_start ?_
      generalize ha : Act.mk _ _ = a0
      have hn : a0.tmps.size = 32 := by rw [← ha]; kernel_rfl
      have h7 : (fr a0 []).eval (.tmp 7) = .slice (some ad) n c := by rw [← ha]; kernel_rfl
      refine fl_know hn rfl h7 ?_
      clear h7
      have h9 : (fr a0 [(7, true, .slice (some ad) n c)]).eval (.tmp 9) = .int .i64 (k : Int) := by rw [← ha]; kernel_rfl
      refine fl_know hn rfl h9 ?_
      clear h9
      refine g_ix hn ?_
      refine g_ld hn ?_
      refine al_row hn (alW wr) ?_
      intro g w2 hg hY hB2
      refine g_str hY ?_ (h1 := wr_oneC x)
      intro w3 ho hY3
      refine fl_end ?_
      clear hn
      subst ha
      dsimp only [fr, cnd, Act.put, cond_true]
      simp only [List.setIfInBounds_toArray, List.set_cons_zero, List.set_cons_succ]
      have hbg : b + 1 < g := by have := hX1.lt; omega
      have hX03 := (hX0.keep hB2).only ho (by omega)
      have hX13 := (hX1.keep hB2).only ho (by omega)
      have hB3 : Below b w w3 := (hB.trans (hB2.mono (by omega))).trans (ho.below (by omega))
      clear ix ld hc hY hX0 hX1 hB hB2 ho
      have c0 : w3.cell? ⟨g, 0, none⟩ = some (.int .i64 x.dev) := hY3.cell 0
      have c1 : w3.cell? ⟨g, 1, none⟩ = some (.int .i64 x.seq) := hY3.cell 1
      have f0 := wfd0 w3 ⟨g, 0, none⟩
      have f1 := ifd0 w3 ⟨g, 0, none⟩
      have l0 := load_int (w := w3) c0
      have cI := isNode_any x.dev w3
      go_upto_region 4 with fail
      refine wp_region_lit ?_
      refine fl_start ?_
      generalize ha : Act.mk _ _ = a0
      have hn : a0.tmps.size = 32 := by rw [← ha]; kernel_rfl
      have h6 : (fr a0 []).eval (.tmp 6) = .pointer (some ⟨g, 0, none⟩) := by rw [← ha]; kernel_rfl
      refine fl_know hn rfl h6 ?_
      clear h6
      refine g_fd hn ?_
      refine g_fd hn ?_
      refine g_ld hn ?_
      refine g_c1x en_spinney_roster_isNode hn (R := fun v w2 => v = .bool (nodeB x.dev) ∧ w2 = w3) (cI.mono fun _ _ ⟨he, hw⟩ => ⟨_, he, rfl, hw⟩) ?_
      rintro v w4 ⟨rfl, rfl⟩
      refine fl_end ?_
      clear hn
      subst ha
      dsimp only [fr, cnd, Act.put, cond_true]
      simp only [List.setIfInBounds_toArray, List.set_cons_zero, List.set_cons_succ]
      clear cI l0 f0 f1
      generalize hL : ofL l (ws.take k) = L at hX03 HX hL12
      cases hd : nodeB x.dev with
      | false =>
        have HX2 : Hid (ofL l (ws.take (k + 1)) = L) := by show _ = L; rw [HX.out, ofS_no hd]
        clear HX hd c0 c1
        go_wp2_with fail
        go_roundw
        case rel => exact ⟨k + 1, by omega, by go_num, by rw [HX2.out]; exact hX03, hX13, hB3⟩
        case measure => simp [intOf]; omega
      | true =>
        obtain ⟨dn, hdn, ed⟩ := nodeB_nat hd
        have HX2 : Hid (ofL l (ws.take (k + 1)) = L.set dn (max (gI L dn) x.seq)) := by show _ = _; rw [HX.out, ofS_yes hdn ed]
        rw [ed] at c0
        clear HX hd
        have f0 : ∀ W, Blk W g x.cells 39 → (Instr.fieldAt 39 (.pointer (some ⟨g, 0, none⟩)) 0).run Try.prog W = .ok (.pointer (some ⟨g, 0, none⟩)) W := fun W _ => wfd0 W ⟨g, 0, none⟩
        have f1 : ∀ W, Blk W g x.cells 39 → (Instr.fieldAt 32 (.pointer (some ⟨g, 0, none⟩)) 0).run Try.prog W = .ok (.pointer (some ⟨g, 0, none⟩)) W := fun W _ => ifd0 W ⟨g, 0, none⟩
        have f2 : ∀ W, Blk W g x.cells 39 → (Instr.fieldAt 32 (.pointer (some ⟨g, 0, none⟩)) 1).run Try.prog W = .ok (.pointer (some ⟨g, 1, none⟩)) W := fun W _ => by have := ifd1 W ⟨g, 0, none⟩; rwa [Nat.zero_add] at this
        have l0 : ∀ W, Blk W g x.cells 39 → (Instr.loadAt 3 (.pointer (some ⟨g, 0, none⟩))).run Try.prog W = .ok (.int .i64 (dn : Int)) W := fun W e => load_int ((e.cell 0).trans (by rw [← ed]; rfl))
        have l1 : ∀ W, Blk W g x.cells 39 → (Instr.loadAt 3 (.pointer (some ⟨g, 1, none⟩))).run Try.prog W = .ok (.int .i64 x.seq) W := fun W e => load_int (e.cell 1)
        have x1 : ∀ W, Blk W g x.cells 39 → (Instr.indexAt 29 (.pointer (some ⟨b, 0, none⟩)) (.int .i64 (dn : Int))).run Try.prog W = .ok (.pointer (some ⟨b, dn, none⟩)) W := fun W _ => ix_liL W b dn hdn
        have hXd : Blk w4.drew b (liA L) 29 := hX03
        go_upto_region 5 with fail
        refine fh_start (S := fun W => Blk W g x.cells 39) (by kernel_rfl) (hY3) (fun hS => ?_)
        generalize ha : Act.mk _ _ = a0
        have hn : a0.tmps.size = 32 := by rw [← ha]; kernel_rfl
        have h2 : (fr a0 []).eval (.tmp 2) = .pointer (some ⟨b, 0, none⟩) := by rw [← ha]; kernel_rfl
        refine fh_know hn rfl h2 ?_
        clear h2
        have h6 : (fr a0 [(2, true, .pointer (some ⟨b, 0, none⟩))]).eval (.tmp 6) = .pointer (some ⟨g, 0, none⟩) := by rw [← ha]; kernel_rfl
        refine fh_know hn rfl h6 ?_
        clear h6
        refine h_fd 0 hn hS ?_
        refine h_fd 1 hn hS ?_
        refine h_ld 2 hn hS ?_
        refine h_fd 3 hn hS ?_
        refine h_fd 4 hn hS ?_
        refine h_ld 5 hn hS ?_
        refine h_ix 6 hn hS ?_
        refine h_fd 8 hn hS ?_
        refine h_fd 9 hn hS ?_
        refine h_ld 10 hn hS ?_
        refine h_one 7 hn hS (fun hk => x_ld (lk_at hk (i := 23) rfl (fun _ => rfl) rfl) (load_int (li_cell hXd (by omega)))) ?_
        refine h_op 11 hn hS (fun W _ hk => x_maxI (lk_at hk (i := 24) rfl (fun _ => rfl) rfl) (lk_at hk (i := 27) rfl (fun _ => rfl) rfl)) ?_
        refine h_ix 12 hn hS ?_
        have hX5 := hXd.set dn (.int .i64 (max (gI L dn) x.seq))
        rw [li_set, ← HX2.out] at hX5
        have hX6 := Blk.other (W := w4.drew) (c := b) hX13 (by omega) dn (.int .i64 (max (gI L dn) x.seq))
        have hB6 : Below b w (w4.drew.setCell ⟨b, dn, none⟩ (.int .i64 (max (gI L dn) x.seq))) := hB3.drew.setCell (p := ⟨b, dn, none⟩) (Nat.le_refl b) _
        refine h_st 13 (li_st hXd (by omega) (max (gI L dn) x.seq)) (Blk.other (W := w4.drew) (c := b) hY3 (by omega) dn _) ?_
        generalize w4.drew.setCell ⟨b, dn, none⟩ (.int .i64 (max (gI L dn) x.seq)) = w6 at hX5 hX6 hB6 ⊢
        refine fh_end (by kernel_rfl) ?_
        clear hn
        subst ha
        dsimp only [fr, cnd, Act.put, cond_true]
        simp only [List.setIfInBounds_toArray, List.set_cons_zero, List.set_cons_succ]
        clear f0 f1 f2 l0 l1 x1 hXd hY3 hX03 hX13 hB3 c0 c1 hS
        go_wp2_with fail
        go_roundw
        case rel => exact ⟨k + 1, by omega, by go_num, hX5, hX6, hB6⟩
        case measure => simp [intOf]; omega
    · have e : k = n := by omega
      subst e
      rw [List.take_of_length_le (by have := HN.out; omega)] at hX0
      have h12 := ofL_len hl ws
      have l2 := ld_liL hX0 h12
      go_upto_region 7 with fail
      refine wp_region_lit ?_
      refine fl_start ?_
      generalize ha : Act.mk _ _ = a0
      have hn : a0.tmps.size = 32 := by rw [← ha]; kernel_rfl
      have h2 : (fr a0 []).eval (.tmp 2) = .pointer (some ⟨b, 0, none⟩) := by rw [← ha]; kernel_rfl
      refine fl_know hn rfl h2 ?_
      clear h2
      have h4 : (fr a0 [(2, true, .pointer (some ⟨b, 0, none⟩))]).eval (.tmp 4) = .pointer (some ⟨b + 1, 0, none⟩) := by rw [← ha]; kernel_rfl
      refine fl_know hn rfl h4 ?_
      clear h4
      refine g_ld hn ?_
      refine g_str hX1 ?_ (hs := by rw [li_size, h12]; rfl) (hi := by rw [li_size, h12]; kernel_rfl) (h1 := li_one _)
      intro w4 ho hX4
      refine fl_end ?_
      clear hn
      subst ha
      dsimp only [fr, cnd, Act.put, cond_true]
      simp only [List.setIfInBounds_toArray, List.set_cons_zero, List.set_cons_succ]
      have hB4 := hB.trans (ho.below (B := b) (by omega))
      clear l2 hX0 hX1 ho hB
      obtain ⟨r0, r1, r2, r3, r4, r5, r6, r7, r8, r9, r10, r11, hr⟩ := li_cases h12
      rw [hr] at hX4
      have HR2 := Lib.hid hr
      clear hr
      go_wp2_with fail
      refine bodyPost_ret (results_cell_row Try.results107 _ _ (b + 1) 29 (laI r0 r1 r2 r3 r4 r5 r6 r7 r8 r9 r10 r11) (0, 0) _ (by rfl) hX4 Try.underlying29 (by rfl) (by kernel_rfl)) rfl ?_
      exact ⟨ret_li (l := laL r0 r1 r2 r3 r4 r5 r6 r7 r8 r9 r10 r11) HR2.out.symm, by first | exact hB4 | (rw [hb]; exact hB4)⟩
/-! The document's. -/
theorem ofS_same {l : List Int} {x : Wr} {d : Nat} (h : d < 12) (hl : l.length = 12) (e : x.dev = (d : Int)) (hc : ¬ gI l d < x.seq) : ofS l x = l := by
  rw [ofS_yes h e]
  refine li_ext (by rw [List.length_set]; exact hl) hl fun j hj => ?_
  rw [gI_set (by omega)]
  split
  · rename_i e
    subst e
    omega
  · rfl
set_option maxRecDepth 100000 in
set_option maxHeartbeats 4000000 in
theorem refOf_any {C : Nat} (l : List Int) (A : Option Addr) (n c : Nat) (ws : List Wr) (w : World) (hl : l.length = 12) (hn0 : ws.length = n) (hr : RdW C w A ws) (hC : C ≤ w.heap.size) (hm : n ≤ 1000000) (hg : ∀ x, x ∈ ws → nodeB x.dev = true) : Calls Try.prog 17 #[.agg (liA l), .slice A n c] w fun e w' => e = .returned (.agg (liA (ofL l ws))) ∧ Below w.heap.size w w' := by
  have HN := Lib.hid hn0
  have HG := Lib.hid hg
  have HR := Lib.hid (fun W hb => hr.keep (W' := W) hb hC)
  clear hn0 hr hg
  have hX0 := blk_new w (liA l) 28
  replace hX0 := hX0.alloc (.cells (laI 0 0 0 0 0 0 0 0 0 0 0 0) 28)
  have hz1 : (w.alloc (.cells (liA l) 28)).heap.size = w.heap.size + 1 := by simp
  have hX1 := blk_new (w.alloc (.cells (liA l) 28)) (laI 0 0 0 0 0 0 0 0 0 0 0 0) 28
  rw [hz1] at hX1
  have hB := ba (b0 w (.cells (liA l) 28)) (.cells (laI 0 0 0 0 0 0 0 0 0 0 0 0) 28)
  have hzz : ((w.alloc (.cells (liA l) 28)).alloc (.cells (laI 0 0 0 0 0 0 0 0 0 0 0 0) 28)).heap.size = w.heap.size + 2 := by simp
  go_enter Try.func17, Try.ntmps17
  go_upto_region 1 with fail
  generalize ((w.alloc (.cells (liA l) 28)).alloc (.cells (laI 0 0 0 0 0 0 0 0 0 0 0 0) 28)) = W0 at hX0 hX1 hB hzz ⊢
  (try simp only [hz1])
  clear hz1
  generalize hb : w.heap.size = b at hX0 hX1 hB hzz ⊢
  go_wp2_with fail
  go_loopw [5, 6, 9] (fun _ _ i wr => ∃ k : Nat, k ≤ n ∧ i = .int .i64 k ∧ Blk wr b (liA (ofL l (ws.take k))) 28 ∧ Blk wr (b + 1) (laI 0 0 0 0 0 0 0 0 0 0 0 0) 28 ∧ Below b w wr) (fun _ _ i _ => n - (intOf i).toNat)
  case atStart => exact ⟨0, Nat.zero_le _, rfl, by rw [List.take_zero]; exact hX0, hX1, hB⟩
  case round =>
    clear hX0 hX1 hB
    obtain ⟨k, hk, rfl, hX0, hX1, hB⟩ := hrel
    by_cases hlt : k < n
    · obtain ⟨x, hx⟩ : ∃ x, ws[k]? = some x := ⟨_, List.getElem?_eq_getElem (show k < ws.length by have := HN.out; omega)⟩
      obtain ⟨ad, rfl, hadb, hc⟩ := HR.out wr (by rw [hb]; exact hB) k x hx
      have HX := Lib.hid (ofL_next l hx)
      have hL12 := ofL_len hl (ws.take k)
      obtain ⟨dn, hdn, ed⟩ := nodeB_nat (HG.out x (List.mem_of_getElem? hx))
      clear hx
      have i2 : (k : Int) < (n : Int) := by omega
      have ix := wix wr ad n c k hlt
      obtain ⟨c0, c1, _⟩ := wr_cells hc
      rw [ed] at c0
      have f0 := wfd0 wr (ad.add (k * 10))
      have l0 := ild c0 c1
      go_upto_region 4 with fail
      refine wp_region_lit ?_
      refine fl_start ?_
      generalize ha : Act.mk _ _ = a0
      have hn : a0.tmps.size = 31 := by rw [← ha]; kernel_rfl
      have h1 : (fr a0 []).eval (.tmp 1) = .slice (some ad) n c := by rw [← ha]; kernel_rfl
      refine fl_know hn rfl h1 ?_
      clear h1
      have h5 : (fr a0 [(1, true, .slice (some ad) n c)]).eval (.tmp 5) = .int .i64 (k : Int) := by rw [← ha]; kernel_rfl
      refine fl_know hn rfl h5 ?_
      clear h5
      refine g_mv hn ?_
      refine g_mv hn ?_
      refine g_ix hn ?_
      refine g_fd hn ?_
      refine g_ld hn ?_
      refine al_row hn (alI wr) ?_
      intro g w2 hg hY hB2
      refine g_str hY ?_ (h1 := id_oneC _ _)
      intro w3 ho hY3
      refine fl_end ?_
      clear hn
      subst ha
      dsimp only [fr, cnd, Act.put, cond_true]
      simp only [List.setIfInBounds_toArray, List.set_cons_zero, List.set_cons_succ]
      have hbg : b + 1 < g := by have := hX1.lt; omega
      have hX03 := (hX0.keep hB2).only ho (by omega)
      have hX13 := (hX1.keep hB2).only ho (by omega)
      have hB3 : Below b w w3 := (hB.trans (hB2.mono (by omega))).trans (ho.below (by omega))
      clear ix l0 f0 c0 c1 hc hY hX0 hX1 hB hB2 ho
      generalize hL : ofL l (ws.take k) = L at hX03 HX hL12
      have f0 : ∀ W, Kp w3 W → (Instr.fieldAt 32 (.pointer (some ⟨g, 0, none⟩)) 0).run Try.prog W = .ok (.pointer (some ⟨g, 0, none⟩)) W := fun W _ => ifd0 W ⟨g, 0, none⟩
      have f1 : ∀ W, Kp w3 W → (Instr.fieldAt 32 (.pointer (some ⟨g, 0, none⟩)) 1).run Try.prog W = .ok (.pointer (some ⟨g, 1, none⟩)) W := fun W _ => by have := ifd1 W ⟨g, 0, none⟩; rwa [Nat.zero_add] at this
      have l0 : ∀ W, Kp w3 W → (Instr.loadAt 3 (.pointer (some ⟨g, 0, none⟩))).run Try.prog W = .ok (.int .i64 (dn : Int)) W := fun W e => load_int ((e.blk hY3).cell 0)
      have l1 : ∀ W, Kp w3 W → (Instr.loadAt 3 (.pointer (some ⟨g, 1, none⟩))).run Try.prog W = .ok (.int .i64 x.seq) W := fun W e => load_int ((e.blk hY3).cell 1)
      have x1 : ∀ W, Kp w3 W → (Instr.indexAt 28 (.pointer (some ⟨b, 0, none⟩)) (.int .i64 (dn : Int))).run Try.prog W = .ok (.pointer (some ⟨b, dn, none⟩)) W := fun W _ => ix_liA W b dn hdn
      have l2 : ∀ W, Kp w3 W → (Instr.loadAt 3 (.pointer (some ⟨b, dn, none⟩))).run Try.prog W = .ok (.int .i64 (gI L dn)) W := fun W e => load_int (li_cell (e.blk hX03) (by omega))
      go_upto_region 5 with fail
      refine fc_start (S := Kp w3) (by kernel_rfl) (Kp.drew _) ?_
      generalize ha : Act.mk _ _ = a0
      have hn : a0.tmps.size = 31 := by rw [← ha]; kernel_rfl
      have h2 : (fr a0 []).eval (.tmp 2) = .pointer (some ⟨b, 0, none⟩) := by rw [← ha]; kernel_rfl
      refine fc_know hn rfl h2 ?_
      clear h2
      have h6 : (fr a0 [(2, true, .pointer (some ⟨b, 0, none⟩))]).eval (.tmp 6) = .pointer (some ⟨g, 0, none⟩) := by rw [← ha]; kernel_rfl
      refine fc_know hn rfl h6 ?_
      clear h6
      refine c_fd 0 hn ?_
      refine c_ld 1 hn ?_
      refine c_fd 2 hn ?_
      refine c_ld 3 hn ?_
      refine c_ix 4 hn ?_
      refine c_ld 5 hn ?_
      refine c_gtr2 6 hn ?_
      refine fc_end (fun w4 hS => ?_)
      clear hn
      subst ha
      dsimp only [fr, cnd, Act.put, cond_true]
      simp only [List.setIfInBounds_toArray, List.set_cons_zero, List.set_cons_succ]
      have hX04 := hS.blk hX03
      have hX14 := hS.blk hX13
      have hB4 : Below b w w4 := hB3.trans (hS.below.mono (by have := hX13.lt; omega))
      by_cases hcm : gI L dn < x.seq
      · have HX2 : Hid (ofL l (ws.take (k + 1)) = L.set dn x.seq) := by show _ = _; rw [HX.out, ofS_yes hdn ed, show max (gI L dn) x.seq = x.seq by omega]
        have g0 := f0 w4 hS
        have g1 := f1 w4 hS
        have m0 := l0 w4 hS
        have m1 := l1 w4 hS
        have y1 := x1 w4 hS
        clear f0 f1 l0 l1 x1 l2 HX
        go_upto_region 6 with fail
        refine wp_region_lit ?_
        refine fl_start ?_
        generalize ha : Act.mk _ _ = a0
        have hn : a0.tmps.size = 31 := by rw [← ha]; kernel_rfl
        have h2 : (fr a0 []).eval (.tmp 2) = .pointer (some ⟨b, 0, none⟩) := by rw [← ha]; kernel_rfl
        refine fl_know hn rfl h2 ?_
        clear h2
        have h6 : (fr a0 [(2, true, .pointer (some ⟨b, 0, none⟩))]).eval (.tmp 6) = .pointer (some ⟨g, 0, none⟩) := by rw [← ha]; kernel_rfl
        refine fl_know hn rfl h6 ?_
        clear h6
        refine g_fd hn ?_
        refine g_ld hn ?_
        refine g_fd hn ?_
        refine g_ld hn ?_
        refine g_ix hn ?_
        refine g_stt hX04 (li_st (j := dn) hX04 (by omega) x.seq) ?_
        intro w5 ho5 hX05
        refine fl_end ?_
        clear hn
        subst ha
        dsimp only [fr, cnd, Act.put, cond_true]
        simp only [List.setIfInBounds_toArray, List.set_cons_zero, List.set_cons_succ]
        rw [li_set, ← HX2.out] at hX05
        have hX15 := hX14.only ho5 (by omega)
        have hB5 := hB4.trans (ho5.below (B := b) (Nat.le_refl _))
        clear g0 g1 m0 m1 y1 ho5 hX04 hX14 hB4 hS hX03 hX13 hY3
        go_wp2_with fail
        go_roundw
        case rel => exact ⟨k + 1, by omega, by go_num, hX05, hX15, hB5⟩
        case measure => simp [intOf]; omega
      · have HX2 : Hid (ofL l (ws.take (k + 1)) = L) := by show _ = L; rw [HX.out, ofS_same hdn hL12 ed hcm]
        clear f0 f1 l0 l1 x1 l2 HX hX03 hX13 hY3 hS
        go_wp2_with fail
        go_roundw
        case rel => exact ⟨k + 1, by omega, by go_num, by rw [HX2.out]; exact hX04, hX14, hB4⟩
        case measure => simp [intOf]; omega
    · have e : k = n := by omega
      subst e
      rw [List.take_of_length_le (by have := HN.out; omega)] at hX0
      have h12 := ofL_len hl ws
      have l2 := ld_liA hX0 h12
      go_upto_region 8 with fail
      refine wp_region_lit ?_
      refine fl_start ?_
      generalize ha : Act.mk _ _ = a0
      have hn : a0.tmps.size = 31 := by rw [← ha]; kernel_rfl
      have h2 : (fr a0 []).eval (.tmp 2) = .pointer (some ⟨b, 0, none⟩) := by rw [← ha]; kernel_rfl
      refine fl_know hn rfl h2 ?_
      clear h2
      have h4 : (fr a0 [(2, true, .pointer (some ⟨b, 0, none⟩))]).eval (.tmp 4) = .pointer (some ⟨b + 1, 0, none⟩) := by rw [← ha]; kernel_rfl
      refine fl_know hn rfl h4 ?_
      clear h4
      refine g_ld hn ?_
      refine g_str hX1 ?_ (hs := by rw [li_size, h12]; rfl) (hi := by rw [li_size, h12]; kernel_rfl) (h1 := li_one _)
      intro w4 ho hX4
      refine fl_end ?_
      clear hn
      subst ha
      dsimp only [fr, cnd, Act.put, cond_true]
      simp only [List.setIfInBounds_toArray, List.set_cons_zero, List.set_cons_succ]
      have hB4 := hB.trans (ho.below (B := b) (by omega))
      clear l2 hX0 hX1 ho hB
      obtain ⟨r0, r1, r2, r3, r4, r5, r6, r7, r8, r9, r10, r11, hr⟩ := li_cases h12
      rw [hr] at hX4
      have HR2 := Lib.hid hr
      clear hr
      go_wp2_with fail
      refine bodyPost_ret (results_cell_row Try.results17 _ _ (b + 1) 28 (laI r0 r1 r2 r3 r4 r5 r6 r7 r8 r9 r10 r11) (0, 0) _ (by rfl) hX4 Try.underlying28 (by rfl) (by kernel_rfl)) rfl ?_
      exact ⟨ret_li (l := laL r0 r1 r2 r3 r4 r5 r6 r7 r8 r9 r10 r11) HR2.out.symm, by first | exact hB4 | (rw [hb]; exact hB4)⟩
end Go.Proofs.Ytkfhkfddhijkcaa
