/-
  WHAT IS PROVED: a queue takes a write, or tells why not. Conditions: those typed in each theorem.
-/
import Derived.Test.YtkfhkfddhijkcaaQuB
import Derived.Test.YtkfhkfddhijkcaaSlAp
namespace Go.Proofs.Ytkfhkfddhijkcaa
open Go.RowKit

section
variable {P : Program} {l : List Oper} {Q : Exit → Act → World → Prop} {S : World → Prop} {fuel : Nat} {listed : Array Bool} {a0 : Act} {L : List (Nat × Bool × Value)} {w : World}
theorem one_val {i : Nat} {oi : Oper} {d n : Nat} {R : Value → World → Prop} (hn : a0.tmps.size = n) (hX : ∀ K : Act → World → Prop, (∀ v w2, R v w2 → K ((fr a0 L).put (some d) v) w2) → (∀ p, p ∈ L → p.1 < a0.tmps.size) → oi.wp P (fr a0 L) w K Q)
    (h : ∀ v w2, R v w2 → S w2 ∧ FH P l Q S fuel (listed.setIfInBounds i true) a0 ((d, true, v) :: L) w2) (hi : l.toArray[i]? = some oi) (hd : Nat.blt d n = true) (hw : wtG l L oi.guard = some true) : FHone P l Q S fuel listed a0 L w i := by
  intro hk
  unfold wpOp
  simp only [hi, wt_is hk hw, if_true]
  refine .inl (hX _ (fun v w2 hR => ?_) hk)
  obtain ⟨hs, hF⟩ := h v w2 hR
  exact ⟨hs, hF.go (fun p hp => by
    rcases List.mem_cons.1 hp with e | e
    · rw [e, hn]; exact blt_lt hd
    · exact hk p e)⟩
theorem one_callx {i : Nat} {oi : Oper} {d n : Nat} {R : Value → World → Prop} {f : FuncId} {args : Array Value} (hn : a0.tmps.size = n) (ho : oi.dst = some d) (hx : (∀ p, p ∈ L → p.1 < a0.tmps.size) → (execOp (fr a0 L).eval oi).run P w = .ok (.enter f args) w) (hc : Calls P f args w fun e w' => ∃ v, e = .returned v ∧ R v w')
    (h : ∀ v w2, R v w2 → S w2 ∧ FH P l Q S fuel (listed.setIfInBounds i true) a0 ((d, true, v) :: L) w2) (hi : l.toArray[i]? = some oi) (hd : Nat.blt d n = true) (hw : wtG l L oi.guard = some true) : FHone P l Q S fuel listed a0 L w i :=
  one_val hn (fun K hK hk => by
    unfold Oper.wp
    rw [hx hk, Oper.upon_enter]
    refine hc.mono ?_
    rintro e w' ⟨v, rfl, hR⟩
    show K ((fr a0 L).put oi.dst v) w'
    rw [ho]
    exact hK v w' hR) h hi hd hw
end
theorem x_bsW {w : World} {ρ : Operand → Value} {d : Option Tmp} {i : Nat} {ty : TypeId} {p : String} {af : Array Edge} {gd : Option (Nat × Bool)} {x : Wr} (h : ρ (.tmp i) = .agg x.cells) : (execOp ρ ⟨d, .buildSlice 30 1 #[(0, .tmp i)], ty, p, af, gd⟩).run Try.prog w = .ok (.value (.slice (some ⟨w.heap.size, 0, none⟩) 1 1)) (w.alloc (.cells x.cells tWr)) := by
  have e : (#[(0, Operand.tmp i)] : Array (Nat × Operand)).map (fun y => (y.fst, ρ y.snd)) = #[(0, .agg x.cells)] := by simp only [List.map_toArray, List.map_cons, List.map_nil, h]
  have h2 := bs1W x w
  rw [← e] at h2
  unfold execOp
  dsimp only
  rw [Sem.run_bind]
  exact (congrArg (fun r => Result.andThen r _) h2).trans rfl
theorem qrun_ap {W : World} {q : Nat} {A : Option Addr} {n c g : Nat} {ws : List Wr} {x : Wr} (hO : OwnX tWr 10 (q + 1) W A n c (ws.map Wr.cells)) (hY : Blk W g x.cells tWr) (hn : n ≤ 1000) (hb : q + 1 ≤ W.heap.size) : ∃ A' c' w', (∀ ty, (Builtin.append_ #[30, 30] ty #[.slice A n c, .slice (some ⟨g, 0, none⟩) 1 1]).run Try.prog W = .ok (.slice A' (n + 1) c') w') ∧ OwnX tWr 10 (q + 1) w' A' (n + 1) c' ((ws ++ [x]).map Wr.cells) ∧ Below (q + 1) W w' ∧ (∀ k, k < W.heap.size → (∀ a, A = some a → a.block ≠ k) → w'.heap[k]? = W.heap[k]?) ∧ (A'.map (·.block) = A.map (·.block) ∨ A'.map (·.block) = some W.heap.size) := by
  obtain ⟨i0, hi0, hz0, hs0, hb0⟩ := info_parts wr_infoM
  obtain ⟨A', c', w', h1, h2, h3, _, h5, h6⟩ := run_apM (P := Try.prog) (ty := 0) (d := 1) W Try.underlying30 Try.underlying30 hi0 hz0 hs0 hb0 (by rfl) (by omega) (by omega) hO (wr_szd [x]) rfl (wr_ones [x]) (blk_rdw hY).cells (by show n + 1 ≤ _; omega) hb (.inr Nat.one_ne_zero)
  refine ⟨A', c', w', fun ty => h1, by rw [List.map_append]; exact h2, h3, h5, h6⟩
/-- What Take answers. -/
def takeI (room : Int) (l : List Int) (ws : List Wr) (x : Wr) : Int := if askI (ofL l ws) x.dev x.seq = 0 then (if room ≤ (ws.length : Int) then 3 else 0) else askI (ofL l ws) x.dev x.seq
/-- What a Take leaves. -/
def QTook (q : Nat) (room : Int) (A : Option Addr) (n c : Nat) (ws : List Wr) (x : Wr) (code : Int) (w w' : World) : Prop :=
  (code ≠ 0 ∧ QuW w' q room A n c ws ∧ Below w.heap.size w w') ∨
  (code = 0 ∧ ∃ A' n' c', QuW w' q room A' n' c' (ws ++ [x]) ∧ QuK q A w w' ∧ (A'.map (·.block) = A.map (·.block) ∨ ∀ a, A' = some a → w.heap.size ≤ a.block))
set_option maxRecDepth 100000 in
set_option maxHeartbeats 4000000 in
theorem qTake_any (q : Nat) (room : Int) (A : Option Addr) (n c : Nat) (ws : List Wr) (l : List Int) (x : Wr) (w : World) (hQ : QuW w q room A n c ws) (hl : l.length = 12) (hs : Sml (ofL l ws)) (hx : Fit x) (hm : n ≤ 1000) : Calls Try.prog 20 #[.pointer (some ⟨q, 0, none⟩), .agg (liA l), .agg x.cells] w fun e w' => e = .returned (.int .i64 (takeI room l ws x)) ∧ QTook q room A n c ws x (takeI room l ws x) w w' := by
  have HT : Hid (takeI room l ws x = if askI (ofL l ws) x.dev x.seq = 0 then (if room ≤ (ws.length : Int) then 3 else 0) else askI (ofL l ws) x.dev x.seq) := by show _ = _; rfl
  have hX0 := blk_new w (liA l) 29
  replace hX0 := hX0.alloc (.cells x.cells 39)
  have hz1 : (w.alloc (.cells (liA l) 29)).heap.size = w.heap.size + 1 := by simp
  have hX1 := blk_new (w.alloc (.cells (liA l) 29)) x.cells 39
  rw [hz1] at hX1
  have hB := ba (b0 w (.cells (liA l) 29)) (.cells x.cells 39)
  have hzz : ((w.alloc (.cells (liA l) 29)).alloc (.cells x.cells 39)).heap.size = w.heap.size + 2 := by simp
  go_enter Try.func20, Try.ntmps20
  go_upto_region 1 with fail
  generalize ((w.alloc (.cells (liA l) 29)).alloc (.cells x.cells 39)) = W0 at hX0 hX1 hB hzz ⊢
  (try simp only [hz1])
  clear hz1
  generalize hb : w.heap.size = b at hX0 hX1 hB hzz ⊢
  have hQ0 := hQ.keep (by rw [hb]; exact hB)
  have hqb : q < b := by rw [← hb]; exact hQ.blk.lt
  have hA0 : ∀ a, A = some a → a.block < b := fun a ha => by rw [← hb]; exact (hQ.own.blk ha).2
  clear hQ
  have hwl := hQ0.len
  have l0 : ∀ W, Kp W0 W → _ := fun W h => ld_liL (h.blk hX0) hl
  have f0 : ∀ W, Kp W0 W → _ := fun W _ => wfd0 W ⟨b + 1, 0, none⟩
  have i0 : ∀ W, Kp W0 W → (Instr.loadAt 32 (.pointer (some ⟨b + 1, 0, none⟩))).run Try.prog W = .ok (.agg #[.int .i64 x.dev, .int .i64 x.seq]) W := fun W h => ild ((h.blk hX1).cell 0) ((h.blk hX1).cell 1)
  refine fh_start (S := Kp W0) (by kernel_rfl) (Kp.drew _) (fun hS => ?_)
  generalize ha : Act.mk _ _ = a0
  have hn : a0.tmps.size = 38 := by rw [← ha]; kernel_rfl
  have h0 : (fr a0 []).eval (.tmp 0) = .pointer (some ⟨q, 0, none⟩) := by rw [← ha]; kernel_rfl
  refine fh_know hn rfl h0 ?_
  clear h0
  have h4 : (fr a0 [(0, true, .pointer (some ⟨q, 0, none⟩))]).eval (.tmp 4) = .pointer (some ⟨b, 0, none⟩) := by rw [← ha]; kernel_rfl
  refine fh_know hn rfl h4 ?_
  clear h4
  have h5 : (fr a0 [(4, true, .pointer (some ⟨b, 0, none⟩)), (0, true, .pointer (some ⟨q, 0, none⟩))]).eval (.tmp 5) = .pointer (some ⟨b + 1, 0, none⟩) := by rw [← ha]; kernel_rfl
  refine fh_know hn rfl h5 ?_
  clear h5
  refine h_mv 0 hn hS ?_
  refine h_ld 1 hn hS ?_
  refine h_fd 3 hn hS ?_
  refine h_ld 4 hn hS ?_
  refine h_c2 2 en_spinney_queue_Queue_Lasts hn (R := fun v w2 => v = .agg (liA (ofL l ws)) ∧ Kp W0 w2) ((qLasts_any q room A n c ws l W0.drew (hQ0.keep hS.below) hl (by omega)).mono fun _ _ ⟨he, hb2⟩ => ⟨_, he, rfl, hS.trans hb2⟩) ?_
  rintro v wn ⟨rfl, hSn⟩
  refine ⟨hSn, ?_⟩
  replace hS := hSn
  clear hSn
  refine h_c2 5 en_spinney_roster_Ask hn (R := fun v w2 => v = .int .i64 (askI (ofL l ws) x.dev x.seq) ∧ Kp W0 w2) ((ask_any (ofL l ws) x.dev x.seq wn hs).mono fun _ _ ⟨he, hb2⟩ => ⟨_, he, rfl, hS.trans hb2⟩) ?_
  rintro v w1 ⟨rfl, hSn⟩
  refine ⟨hSn, ?_⟩
  replace hS := hSn
  clear hSn
  refine h_as 6 hn hS ?_
  refine fh_end (by kernel_rfl) ?_
  clear hn
  subst ha
  dsimp only [fr, cnd, Act.put, cond_true]
  simp only [List.setIfInBounds_toArray, List.set_cons_zero, List.set_cons_succ]
  have hQ1 := hQ0.keep hS.below
  have hX1' := hS.blk hX1
  have hB1 : Below b w w1 := hB.trans (hS.below.mono (by omega))
  have hz1 : b + 2 ≤ w1.heap.size := by have := hS.below.size; omega
  clear l0 f0 i0 hX0 hX1 hB hQ0 hs hS
  generalize askI (ofL l ws) x.dev x.seq = a at *
  by_cases ha : a = 0
  rotate_left
  · have R : Hid (takeI room l ws x = a) := by show _ = _; rw [HT.out, if_neg ha]
    have hi : (a == 0) = false := by simpa using ha
    clear HT hX1'
    go_wp2_with fail
    go_ret
    rw [R.out]
    exact ⟨rfl, .inl ⟨ha, hQ1, by first | (rw [hb]; exact hB1) | exact hB1⟩⟩
  subst ha
  rw [if_pos rfl] at HT
  have cq0 : ∀ W, Kp w1 W → (Instr.loadAt 3 (.pointer (some ⟨q, 0, none⟩))).run Try.prog W = .ok (.int .i64 room) W := fun W h => load_int ((h.blk hQ1.blk).cell 0)
  have cq1 : ∀ W, Kp w1 W → _ := fun W h => ld_slW ((h.blk hQ1.blk).cell 1)
  have f0 : ∀ W, Kp w1 W → _ := fun W _ => qf0 W q
  have f1 : ∀ W, Kp w1 W → _ := fun W _ => qf1 W q
  go_upto_region 4 with fail
  refine fc_start (S := Kp w1) (by kernel_rfl) (Kp.drew _) ?_
  generalize ha : Act.mk _ _ = a0
  have hn : a0.tmps.size = 38 := by rw [← ha]; kernel_rfl
  have h0 : (fr a0 []).eval (.tmp 0) = .pointer (some ⟨q, 0, none⟩) := by rw [← ha]; kernel_rfl
  refine fc_know hn rfl h0 ?_
  clear h0
  refine c_mv 0 hn ?_
  refine c_nc 1 hn ?_
  refine c_fd 2 hn ?_
  refine c_ld 3 hn ?_
  refine c_ln 4 hn ?_
  refine c_mv 5 hn ?_
  refine c_nc 6 hn ?_
  refine c_fd 7 hn ?_
  refine c_ld 8 hn ?_
  refine c_geq2 9 hn ?_
  refine fc_end (fun w2 hS => ?_)
  clear hn
  subst ha
  dsimp only [fr, cnd, Act.put, cond_true]
  simp only [List.setIfInBounds_toArray, List.set_cons_zero, List.set_cons_succ]
  have hQ2 := hQ1.keep hS.below
  have hX2 := hS.blk hX1'
  have hB2 : Below b w w2 := hB1.trans (hS.below.mono (by omega))
  have hz2 : b + 2 ≤ w2.heap.size := by have := hS.below.size; omega
  clear cq0 cq1 f0 f1 hQ1 hX1' hB1 hz1 hS
  by_cases hr : room ≤ (n : Int)
  · have R : Hid (takeI room l ws x = 3) := by show _ = _; rw [HT.out, hwl, if_pos hr]
    rw [decide_eq_true hr]
    clear HT hX2
    go_wp2_with fail
    go_ret
    rw [R.out]
    exact ⟨rfl, .inl ⟨by decide, hQ2, by first | (rw [hb]; exact hB2) | exact hB2⟩⟩
  rw [decide_eq_false hr]
  have R : Hid (takeI room l ws x = 0) := by show _ = _; rw [HT.out, hwl, if_neg hr]
  clear HT hr
  have l5 : ∀ W, (Blk W (b + 1) x.cells 39 ∧ ∃ A n c, Blk W q #[.int .i64 room, .slice A n c] 132) → _ := fun W h => wld_blk h.1
  have f1 : ∀ W, (Blk W (b + 1) x.cells 39 ∧ ∃ A n c, Blk W q #[.int .i64 room, .slice A n c] 132) → _ := fun W _ => qf1 W q
  have hbs := bs1W x
  go_upto_region 6 with fail
  refine fh_start (S := (fun W => (Blk W (b + 1) x.cells 39 ∧ ∃ A n c, Blk W q #[.int .i64 room, .slice A n c] 132))) (by kernel_rfl) (⟨hX2, A, n, c, hQ2.blk⟩) (fun hS => ?_)
  generalize ha : Act.mk _ _ = a0
  have hn : a0.tmps.size = 38 := by rw [← ha]; kernel_rfl
  have h0 : (fr a0 []).eval (.tmp 0) = .pointer (some ⟨q, 0, none⟩) := by rw [← ha]; kernel_rfl
  refine fh_know hn rfl h0 ?_
  clear h0
  have h5 : (fr a0 [(0, true, .pointer (some ⟨q, 0, none⟩))]).eval (.tmp 5) = .pointer (some ⟨b + 1, 0, none⟩) := by rw [← ha]; kernel_rfl
  refine fh_know hn rfl h5 ?_
  clear h5
  refine h_mv 0 hn hS ?_
  refine h_mv 1 hn hS ?_
  refine h_nc 2 hn hS ?_
  refine h_fd 3 hn hS ?_
  refine h_ld 5 hn hS ?_
  refine fh_two (i := 4) (j := 6) (by kernel_rfl) ?_ ?_
  · refine one_valx (d := 31) (v := .slice A n c) (w2 := World.drew w2) hn rfl (fun hk => x_ld (lk_at hk (i := 30) rfl (fun _ => rfl) rfl) (ld_slW (W := w2.drew) (hQ2.blk.cell 1))) ⟨hX2, A, n, c, hQ2.blk⟩ ?_ rfl rfl rfl
    refine fh_callx 6 (d := 33) (R := (fun v w4 => v = .agg x.cells ∧ Below w2.drew.heap.size w2.drew w4)) hn rfl (fun hk => call1_is en_spinney_fresh_Write _ _ _ _ _ _ _ _ (.agg x.cells) (lk_at hk (i := 32) rfl (fun _ => rfl) rfl) rfl) ((freshWr_any x w2.drew hx.1 hx.2.1 hx.2.2).mono fun _ _ ⟨he, hb2⟩ => ⟨_, he, rfl, hb2⟩) ?_ rfl rfl (by kernel_rfl) rfl
    rintro v w4 ⟨rfl, hB4⟩
    replace hB4 : Below w2.heap.size w2 w4 := bel_un hB4
    have hX4 := hX2.keep hB4
    have hQ4 := hQ2.keep hB4
    have hX5 : Blk (w4.alloc (.cells x.cells tWr)) (b + 1) x.cells 39 := hX4.alloc _
    have hQ5 := hQ4.keep (b0 w4 (.cells x.cells tWr))
    have hz4 := hB4.size
    have hz5 : (w4.alloc (.cells x.cells tWr)).heap.size = w4.heap.size + 1 := by simp
    obtain ⟨A', c', w6, hrun, hO6, hB6, hne, hA'⟩ := qrun_ap (x := x) hQ5.own (blk_new w4 x.cells tWr) hm (by have := hQ5.blk.lt; omega)
    have hX6 : Blk w6 (b + 1) x.cells 39 := (hne (b + 1) (by omega) (fun a ha => by have := hA0 a ha; omega)).trans hX5
    have hQ6 : Blk w6 q #[.int .i64 room, .slice A n c] 132 := (hne q (by omega) (fun a ha => by have := hQ5.above a ha; omega)).trans hQ5.blk
    have ho := only_cell w6 q 1 (.slice A' (n + 1) c')
    have HQ : Hid (QuW (w6.setCell ⟨q, 1, none⟩ (.slice A' (n + 1) c')) q room A' (n + 1) c' (ws ++ [x])) := ⟨hQ6.set 1 (.slice A' (n + 1) c'), hO6.onlyG ho (by omega), fun y hy => by
      rcases List.mem_append.1 hy with h | h
      · exact hQ2.fit y h
      · rw [show y = x by simpa using h]; exact hx⟩
    have hBw : Below b w (w4.alloc (.cells x.cells tWr)) := (hB2.trans (hB4.mono (by omega))).alloc (by omega) _
    have HK : Hid (QuK q A w (w6.setCell ⟨q, 1, none⟩ (.slice A' (n + 1) c'))) := ⟨ho.os.trans (hB6.os.trans hBw.os), ho.tape.trans (hB6.tape.trans hBw.tape), ho.output.trans (hB6.output.trans hBw.output), by have := ho.size; have := hB6.size; have := hBw.size; omega, fun k hk hkq hka => by
      rw [ho.block k hkq, hne k (by omega) hka, hBw.block k (by omega)]⟩
    have HA : Hid (A'.map (·.block) = A.map (·.block) ∨ ∀ a, A' = some a → w.heap.size ≤ a.block) := by
      show _ ∨ _
      rcases hA' with h | h
      · exact .inl h
      · exact .inr fun a ha => by
          rw [ha] at h
          injection h with h
          have h : a.block = (w4.alloc (.cells x.cells tWr)).heap.size := h
          omega
    refine ⟨⟨hX4, A, n, c, hQ4.blk⟩, ?_⟩
    refine fh_valx 7 (d := 34) hn rfl (fun hk => x_bsW (lk_at hk (i := 33) rfl (fun _ => rfl) rfl)) ⟨hX5, A, n, c, hQ5.blk⟩ ?_ rfl rfl (by kernel_rfl) rfl
    refine fh_valx 8 (d := 35) hn rfl (fun hk => x_ap (lk_at hk (i := 31) rfl (fun _ => rfl) rfl) (lk_at hk (i := 34) rfl (fun _ => rfl) rfl) (hrun _)) ⟨hX6, A, n, c, hQ6⟩ ?_ rfl rfl (by kernel_rfl) rfl
    refine h_nc 9 hn ⟨hX6, A, n, c, hQ6⟩ ?_
    refine h_fd 10 hn ⟨hX6, A, n, c, hQ6⟩ ?_
    refine h_st 11 (st_qsl hQ6 A' (n + 1) c') ⟨hX6.only ho (by omega), A', n + 1, c', hQ6.set 1 (.slice A' (n + 1) c')⟩ ?_
    refine fh_end (by kernel_rfl) ?_
    clear hn
    subst ha
    dsimp only [fr, cnd, Act.put, cond_true]
    simp only [List.setIfInBounds_toArray, List.set_cons_zero, List.set_cons_succ]
    clear l5 f1 hbs
    go_wp2_with fail
    go_ret
    rw [R.out]
    exact ⟨rfl, .inr ⟨rfl, A', n + 1, c', HQ.out, HK.out, HA.out⟩⟩
  · refine one_callx (d := 33) (R := (fun v w4 => v = .agg x.cells ∧ Below w2.drew.heap.size w2.drew w4)) hn rfl (fun hk => call1_is en_spinney_fresh_Write _ _ _ _ _ _ _ _ (.agg x.cells) (lk_at hk (i := 32) rfl (fun _ => rfl) rfl) rfl) ((freshWr_any x w2.drew hx.1 hx.2.1 hx.2.2).mono fun _ _ ⟨he, hb2⟩ => ⟨_, he, rfl, hb2⟩) ?_ rfl rfl rfl
    rintro v w4 ⟨rfl, hB4⟩
    replace hB4 : Below w2.heap.size w2 w4 := bel_un hB4
    have hX4 := hX2.keep hB4
    have hQ4 := hQ2.keep hB4
    have hX5 : Blk (w4.alloc (.cells x.cells tWr)) (b + 1) x.cells 39 := hX4.alloc _
    have hQ5 := hQ4.keep (b0 w4 (.cells x.cells tWr))
    have hz4 := hB4.size
    have hz5 : (w4.alloc (.cells x.cells tWr)).heap.size = w4.heap.size + 1 := by simp
    obtain ⟨A', c', w6, hrun, hO6, hB6, hne, hA'⟩ := qrun_ap (x := x) hQ5.own (blk_new w4 x.cells tWr) hm (by have := hQ5.blk.lt; omega)
    have hX6 : Blk w6 (b + 1) x.cells 39 := (hne (b + 1) (by omega) (fun a ha => by have := hA0 a ha; omega)).trans hX5
    have hQ6 : Blk w6 q #[.int .i64 room, .slice A n c] 132 := (hne q (by omega) (fun a ha => by have := hQ5.above a ha; omega)).trans hQ5.blk
    have ho := only_cell w6 q 1 (.slice A' (n + 1) c')
    have HQ : Hid (QuW (w6.setCell ⟨q, 1, none⟩ (.slice A' (n + 1) c')) q room A' (n + 1) c' (ws ++ [x])) := ⟨hQ6.set 1 (.slice A' (n + 1) c'), hO6.onlyG ho (by omega), fun y hy => by
      rcases List.mem_append.1 hy with h | h
      · exact hQ2.fit y h
      · rw [show y = x by simpa using h]; exact hx⟩
    have hBw : Below b w (w4.alloc (.cells x.cells tWr)) := (hB2.trans (hB4.mono (by omega))).alloc (by omega) _
    have HK : Hid (QuK q A w (w6.setCell ⟨q, 1, none⟩ (.slice A' (n + 1) c'))) := ⟨ho.os.trans (hB6.os.trans hBw.os), ho.tape.trans (hB6.tape.trans hBw.tape), ho.output.trans (hB6.output.trans hBw.output), by have := ho.size; have := hB6.size; have := hBw.size; omega, fun k hk hkq hka => by
      rw [ho.block k hkq, hne k (by omega) hka, hBw.block k (by omega)]⟩
    have HA : Hid (A'.map (·.block) = A.map (·.block) ∨ ∀ a, A' = some a → w.heap.size ≤ a.block) := by
      show _ ∨ _
      rcases hA' with h | h
      · exact .inl h
      · exact .inr fun a ha => by
          rw [ha] at h
          injection h with h
          have h : a.block = (w4.alloc (.cells x.cells tWr)).heap.size := h
          omega
    refine ⟨⟨hX4, A, n, c, hQ4.blk⟩, ?_⟩
    refine fh_two (i := 4) (j := 7) (by kernel_rfl) ?_ ?_
    · refine one_valx (d := 31) (v := .slice A n c) (w2 := w4) hn rfl (fun hk => x_ld (lk_at hk (i := 30) rfl (fun _ => rfl) rfl) (ld_slW (W := w4) (hQ4.blk.cell 1))) ⟨hX4, A, n, c, hQ4.blk⟩ ?_ rfl rfl rfl
      refine fh_valx 7 (d := 34) hn rfl (fun hk => x_bsW (lk_at hk (i := 33) rfl (fun _ => rfl) rfl)) ⟨hX5, A, n, c, hQ5.blk⟩ ?_ rfl rfl (by kernel_rfl) rfl
      refine fh_valx 8 (d := 35) hn rfl (fun hk => x_ap (lk_at hk (i := 31) rfl (fun _ => rfl) rfl) (lk_at hk (i := 34) rfl (fun _ => rfl) rfl) (hrun _)) ⟨hX6, A, n, c, hQ6⟩ ?_ rfl rfl (by kernel_rfl) rfl
      refine h_nc 9 hn ⟨hX6, A, n, c, hQ6⟩ ?_
      refine h_fd 10 hn ⟨hX6, A, n, c, hQ6⟩ ?_
      refine h_st 11 (st_qsl hQ6 A' (n + 1) c') ⟨hX6.only ho (by omega), A', n + 1, c', hQ6.set 1 (.slice A' (n + 1) c')⟩ ?_
      refine fh_end (by kernel_rfl) ?_
      clear hn
      subst ha
      dsimp only [fr, cnd, Act.put, cond_true]
      simp only [List.setIfInBounds_toArray, List.set_cons_zero, List.set_cons_succ]
      clear l5 f1 hbs
      go_wp2_with fail
      go_ret
      rw [R.out]
      exact ⟨rfl, .inr ⟨rfl, A', n + 1, c', HQ.out, HK.out, HA.out⟩⟩
    · refine one_valx (d := 34) hn rfl (fun hk => x_bsW (lk_at hk (i := 33) rfl (fun _ => rfl) rfl)) ⟨hX5, A, n, c, hQ5.blk⟩ ?_ rfl rfl rfl
      refine fh_valx 4 (d := 31) (v := .slice A n c) hn rfl (fun hk => x_ld (lk_at hk (i := 30) rfl (fun _ => rfl) rfl) (ld_slW (W := (w4.alloc (.cells x.cells tWr))) (hQ5.blk.cell 1))) ⟨hX5, A, n, c, hQ5.blk⟩ ?_ rfl rfl (by kernel_rfl) rfl
      refine fh_valx 8 (d := 35) hn rfl (fun hk => x_ap (lk_at hk (i := 31) rfl (fun _ => rfl) rfl) (lk_at hk (i := 34) rfl (fun _ => rfl) rfl) (hrun _)) ⟨hX6, A, n, c, hQ6⟩ ?_ rfl rfl (by kernel_rfl) rfl
      refine h_nc 9 hn ⟨hX6, A, n, c, hQ6⟩ ?_
      refine h_fd 10 hn ⟨hX6, A, n, c, hQ6⟩ ?_
      refine h_st 11 (st_qsl hQ6 A' (n + 1) c') ⟨hX6.only ho (by omega), A', n + 1, c', hQ6.set 1 (.slice A' (n + 1) c')⟩ ?_
      refine fh_end (by kernel_rfl) ?_
      clear hn
      subst ha
      dsimp only [fr, cnd, Act.put, cond_true]
      simp only [List.setIfInBounds_toArray, List.set_cons_zero, List.set_cons_succ]
      clear l5 f1 hbs
      go_wp2_with fail
      go_ret
      rw [R.out]
      exact ⟨rfl, .inr ⟨rfl, A', n + 1, c', HQ.out, HK.out, HA.out⟩⟩
end Go.Proofs.Ytkfhkfddhijkcaa
