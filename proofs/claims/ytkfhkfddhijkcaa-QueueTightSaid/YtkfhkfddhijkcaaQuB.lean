/-
  WHAT IS PROVED: a queue's calls: New, Len, List, Lasts, Settle, Take. Conditions: those typed in each theorem.
-/
import Derived.Test.YtkfhkfddhijkcaaQuA
import Derived.Test.YtkfhkfddhijkcaaRoE
namespace Go.Proofs.Ytkfhkfddhijkcaa
open Go.RowKit

theorem en_spinney_queue_New : ∀ args w, (callFunc 14 args).run Try.prog w = .ok (.enter 14 args) w := enters_of Try.func14 (by kernel_rfl) rfl
theorem en_spinney_queue_Queue_Len : ∀ args w, (callFunc 25 args).run Try.prog w = .ok (.enter 25 args) w := enters_of Try.func25 (by kernel_rfl) rfl
theorem en_spinney_queue_Queue_List : ∀ args w, (callFunc 19 args).run Try.prog w = .ok (.enter 19 args) w := enters_of Try.func19 (by kernel_rfl) rfl
theorem en_spinney_queue_Queue_Lasts : ∀ args w, (callFunc 73 args).run Try.prog w = .ok (.enter 73 args) w := enters_of Try.func73 (by kernel_rfl) rfl
theorem en_spinney_queue_Queue_Settle : ∀ args w, (callFunc 18 args).run Try.prog w = .ok (.enter 18 args) w := enters_of Try.func18 (by kernel_rfl) rfl
theorem en_spinney_queue_Queue_Take : ∀ args w, (callFunc 20 args).run Try.prog w = .ok (.enter 20 args) w := enters_of Try.func20 (by kernel_rfl) rfl

/-- A queue of these writes. -/
structure QuW (W : World) (q : Nat) (room : Int) (A : Option Addr) (n c : Nat) (ws : List Wr) : Prop where
  blk : Blk W q #[.int .i64 room, .slice A n c] 132
  own : OwnX tWr 10 (q + 1) W A n c (ws.map Wr.cells)
  fit : ∀ x, x ∈ ws → Fit x
theorem QuW.len {W : World} {q : Nat} {room : Int} {A : Option Addr} {n c : Nat} {ws : List Wr} (h : QuW W q room A n c ws) : ws.length = n := by
  have := h.own.len
  rwa [List.length_map] at this
theorem QuW.keep {W W' : World} {q : Nat} {room : Int} {A : Option Addr} {n c : Nat} {ws : List Wr} (h : QuW W q room A n c ws) (hb : Below W.heap.size W W') : QuW W' q room A n c ws := ⟨h.blk.keep hb, h.own.keep hb, h.fit⟩
/-- All that lay there stays, but the queue's block and its row. -/
structure QuK (q : Nat) (A : Option Addr) (W W' : World) : Prop where
  os : W'.os = W.os
  tape : W'.tape = W.tape
  output : W'.output = W.output
  size : W.heap.size ≤ W'.heap.size
  block : ∀ k, k < W.heap.size → k ≠ q → (∀ a, A = some a → a.block ≠ k) → W'.heap[k]? = W.heap[k]?
theorem quK_of {a b : World} (h : Below a.heap.size a b) (q : Nat) (A : Option Addr) : QuK q A a b := ⟨h.os, h.tape, h.output, h.size, fun k hk _ _ => h.block k hk⟩
theorem QuK.below {q B : Nat} {A : Option Addr} {a b : World} (h : QuK q A a b) (hq : B ≤ q) (hA : ∀ x, A = some x → q < x.block) (hs : B ≤ a.heap.size) : Below B a b :=
  ⟨h.os, h.tape, h.output, h.size, fun k hk => h.block k (by omega) (by omega) fun x hx => by have := hA x hx; omega⟩
theorem QuW.above {W : World} {q : Nat} {room : Int} {A : Option Addr} {n c : Nat} {ws : List Wr} (h : QuW W q room A n c ws) : ∀ x, A = some x → q < x.block := fun x hx => by have := (h.own.blk hx).1; omega
/-- A block of another kind isn't the row. -/
theorem own_ne {W : World} {base g : Nat} {A : Option Addr} {n c : Nat} {ws : List Wr} {cs : Array Value} {T : TypeId} (h : OwnX tWr 10 base W A n c (ws.map Wr.cells)) (hX : Blk W g cs T) (hT : T ≠ tWr) : ∀ a, A = some a → a.block ≠ g := fun a ha e => by
  subst ha
  rcases h.1.2 with ⟨e1, _⟩ | ⟨g2, cap, cur, e1, _, h2, _⟩
  · cases e1
  · injection e1 with e1
    injection e1 with e1
    subst e1
    rw [show (⟨g2, 0, none⟩ : Addr).block = g2 from rfl] at e
    subst e
    unfold Blk at hX
    rw [h2] at hX
    injection hX with hX
    injection hX with _ hX _
    exact hT hX.symm
theorem QuK.blk {q p : Nat} {A : Option Addr} {a b : World} (h : QuK q A a b) {cs : Array Value} {t : TypeId} (hX : Blk a p cs t) (hq : p ≠ q) (hA : ∀ x, A = some x → x.block ≠ p) : Blk b p cs t := (h.block p hX.lt hq hA).trans hX
theorem bel_un {b : Nat} {w w' : World} (h : Below b w.drew w') : Below b w w' := ⟨h.os, h.tape, h.output, h.size, h.block⟩
theorem qf0 (W : World) (q : Nat) : (Instr.fieldAt 132 (.pointer (some ⟨q, 0, none⟩)) 0).run Try.prog W = .ok (.pointer (some ⟨q, 0, none⟩)) W := by kernel_rfl
theorem qf1 (W : World) (q : Nat) : (Instr.fieldAt 132 (.pointer (some ⟨q, 0, none⟩)) 1).run Try.prog W = .ok (.pointer (some ⟨q, 1, none⟩)) W := by kernel_rfl
theorem ld_slW {W : World} {a : Addr} {A : Option Addr} {n c : Nat} (h : W.cell? a = some (.slice A n c)) : (Instr.loadAt 30 (.pointer (some a))).run Try.prog W = .ok (.slice A n c) W := by go_simp
theorem st_qsl {W : World} {q : Nat} {r u : Value} {T : TypeId} (hX : Blk W q #[r, u] T) (A : Option Addr) (n c : Nat) : (Instr.storeAt 30 (.pointer (some ⟨q, 1, none⟩)) (.slice A n c)).run Try.prog W = .ok () (W.setCell ⟨q, 1, none⟩ (.slice A n c)) := by
  have c1 := hX.cell 1
  have f1 := hX.free 1
  go_simp
theorem st_li {W : World} {b : Nat} {l m : List Int} (hX : Blk W b (liA l) 29) (hl : l.length = 12) (hm : m.length = 12) : (Instr.storeAt 29 (.pointer (some ⟨b, 0, none⟩)) (.agg (liA m))).run Try.prog W = .ok () (W.setRow b (liA m)) := by
  have hi : (Try.prog.info? 29).map (·.size) = some (liA m).size := by rw [li_size, hm]; kernel_rfl
  simp only [Instr.storeAt, Instr.sureAddr, Sem.run_bind, Sem.run_pure, Result.andThen_ok]
  exact run_storeVar_row W b 29 29 (liA l) (liA m) hX hi (by rw [li_size, li_size, hl, hm]) (li_one m)
theorem qNew_any (room : Int) (w : World) (h1 : 1 ≤ room) (h2 : room ≤ 400) : Calls Try.prog 14 #[.int .i64 room] w fun e w' => ∃ q, e = .returned (.tuple #[.pointer (some ⟨q, 0, none⟩), .int .i64 0]) ∧ w.heap.size ≤ q ∧ QuW w' q room none 0 0 [] ∧ Below w.heap.size w w' := by
  have hX := blk_new w #[.int .i64 room, .slice none 0 0] 132
  have hB := b0 w (.cells #[.int .i64 room, .slice none 0 0] 132)
  have h3 : ¬ room < 1 := by omega
  have h4 : ¬ 400 < room := by omega
  go_enter Try.func14, Try.ntmps14
  go_wp2_with fail
  go_ret2
  exact ⟨_, rfl, Nat.le_refl _, ⟨hX, OwnX.nil _ _ _ _, fun x hx => by simp at hx⟩, hB⟩
theorem qLen_any (q : Nat) (room : Int) (A : Option Addr) (n c : Nat) (ws : List Wr) (w : World) (hQ : QuW w q room A n c ws) : Calls Try.prog 25 #[.pointer (some ⟨q, 0, none⟩)] w fun e w' => e = .returned (.int .i64 (n : Int)) ∧ w' = w := by
  have c1 := hQ.blk.cell 1
  clear hQ
  go_enter Try.func25, Try.ntmps25
  go_wp2_with fail
  go_ret
  exact ⟨rfl, rfl⟩
theorem qList_any (q : Nat) (room : Int) (A : Option Addr) (n c : Nat) (ws : List Wr) (w : World) (hQ : QuW w q room A n c ws) (hm : n ≤ 1000000) : Calls Try.prog 19 #[.pointer (some ⟨q, 0, none⟩)] w (OwnR ws w) := by
  have c1 := hQ.blk.cell 1
  have cl := freshWs_any A n c ws w hQ.len hQ.own.rdw (Nat.le_refl _) hm hQ.fit
  clear hQ
  go_enter Try.func19, Try.ntmps19
  go_wp2_with fail
  refine cl.mono ?_
  rintro e w2 ⟨A2, n2, c2, rfl, hO, hB⟩
  go_wp2_with fail
  go_ret
  exact ⟨A2, n2, c2, rfl, hO, hB⟩
set_option maxRecDepth 100000 in
set_option maxHeartbeats 4000000 in
theorem qLasts_any (q : Nat) (room : Int) (A : Option Addr) (n c : Nat) (ws : List Wr) (l : List Int) (w : World) (hQ : QuW w q room A n c ws) (hl : l.length = 12) (hm : n ≤ 1000000) : Calls Try.prog 73 #[.pointer (some ⟨q, 0, none⟩), .agg (liA l)] w fun e w' => e = .returned (.agg (liA (ofL l ws))) ∧ Below w.heap.size w w' := by
  have hX0 := blk_new w (liA l) 29
  replace hX0 := hX0.alloc (.cells (laI 0 0 0 0 0 0 0 0 0 0 0 0) 29)
  have hz1 : (w.alloc (.cells (liA l) 29)).heap.size = w.heap.size + 1 := by simp
  have hX1 := blk_new (w.alloc (.cells (liA l) 29)) (laI 0 0 0 0 0 0 0 0 0 0 0 0) 29
  rw [hz1] at hX1
  have hB := ba (b0 w (.cells (liA l) 29)) (.cells (laI 0 0 0 0 0 0 0 0 0 0 0 0) 29)
  have hzz : ((w.alloc (.cells (liA l) 29)).alloc (.cells (laI 0 0 0 0 0 0 0 0 0 0 0 0) 29)).heap.size = w.heap.size + 2 := by simp
  go_enter Try.func73, Try.ntmps73
  go_upto_region 1 with fail
  generalize ((w.alloc (.cells (liA l) 29)).alloc (.cells (laI 0 0 0 0 0 0 0 0 0 0 0 0) 29)) = W0 at hX0 hX1 hB hzz ⊢
  (try simp only [hz1])
  clear hz1
  generalize hb : w.heap.size = b at hX0 hX1 hB hzz ⊢
  have hQ0 := hQ.keep (by rw [hb]; exact hB)
  have hqb : q < b := by rw [← hb]; exact hQ.blk.lt
  clear hQ
  have lQ : ∀ W, (Blk W b (liA l) 29 ∧ Blk W q #[.int .i64 room, .slice A n c] 132) → _ := fun W h => ld_slW (h.2.cell 1)
  have l0 : ∀ W, (Blk W b (liA l) 29 ∧ Blk W q #[.int .i64 room, .slice A n c] 132) → _ := fun W h => ld_liL h.1 hl
  have f1 : ∀ W, (Blk W b (liA l) 29 ∧ Blk W q #[.int .i64 room, .slice A n c] 132) → _ := fun W _ => qf1 W q
  refine fh_start (S := (fun W => Blk W b (liA l) 29 ∧ Blk W q #[.int .i64 room, .slice A n c] 132)) (by kernel_rfl) (⟨hX0, hQ0.blk⟩) (fun hS => ?_)
  generalize ha : Act.mk _ _ = a0
  have hn : a0.tmps.size = 11 := by rw [← ha]; kernel_rfl
  have h0 : (fr a0 []).eval (.tmp 0) = .pointer (some ⟨q, 0, none⟩) := by rw [← ha]; kernel_rfl
  refine fh_know hn rfl h0 ?_
  clear h0
  have h3 : (fr a0 [(0, true, .pointer (some ⟨q, 0, none⟩))]).eval (.tmp 3) = .pointer (some ⟨b, 0, none⟩) := by rw [← ha]; kernel_rfl
  refine fh_know hn rfl h3 ?_
  clear h3
  have h4 : (fr a0 [(3, true, .pointer (some ⟨b, 0, none⟩)), (0, true, .pointer (some ⟨q, 0, none⟩))]).eval (.tmp 4) = .pointer (some ⟨b + 1, 0, none⟩) := by rw [← ha]; kernel_rfl
  refine fh_know hn rfl h4 ?_
  clear h4
  refine h_ld 0 hn hS ?_
  refine h_mv 1 hn hS ?_
  refine h_nc 2 hn hS ?_
  refine h_fd 3 hn hS ?_
  refine h_ld 4 hn hS ?_
  refine h_c2 5 en_spinney_roster_Of hn (R := fun v w2 => v = .agg (liA (ofL l ws)) ∧ Below W0.heap.size W0 w2) ((of_any l A n c ws W0.drew hl hQ0.len hQ0.own.rdw (Nat.le_refl _) hm).mono fun _ _ ⟨he, hb2⟩ => ⟨_, he, rfl, (bel_un hb2)⟩) ?_
  rintro v w2 ⟨rfl, hB2⟩
  refine ⟨⟨hX0.keep hB2, hQ0.blk.keep hB2⟩, ?_⟩
  have hX12 := hX1.keep hB2
  have hrow := hX12.row (liA (ofL l ws))
  have ho := only_row w2 (b + 1) (liA (ofL l ws))
  refine h_st 6 (st_li (l := [0, 0, 0, 0, 0, 0, 0, 0, 0, 0, 0, 0]) hX12 rfl (ofL_len hl ws)) ⟨(hX0.keep hB2).only ho (by omega), (hQ0.blk.keep hB2).only ho (by omega)⟩ ?_
  refine fh_end (by kernel_rfl) ?_
  clear hn
  subst ha
  dsimp only [fr, cnd, Act.put, cond_true]
  simp only [List.setIfInBounds_toArray, List.set_cons_zero, List.set_cons_succ]
  have hBn : Below b w _ := (hB.trans (hB2.mono (by omega))).trans (ho.below (by omega))
  clear lQ l0 f1 hX0 hX1 hB hQ0 hB2 hX12 ho
  go_wp2_with fail
  refine bodyPost_ret (results_cell_row Try.results73 _ _ (b + 1) 29 (liA (ofL l ws)) (0, 0) _ (by rfl) hrow Try.underlying29 (by rfl) (by rw [li_size, ofL_len hl ws]; kernel_rfl)) rfl ?_
  exact ⟨rfl, by first | exact hBn | (rw [hb]; exact hBn)⟩
theorem QuW.fitL {W : World} {q : Nat} {room : Int} {A : Option Addr} {n c : Nat} {ws : List Wr} (h : QuW W q room A n c ws) (l : List Int) : ∀ x, x ∈ leftL l ws → Fit x := fun x hx => h.fit x (List.mem_filter.1 hx).1
set_option maxRecDepth 100000 in
set_option maxHeartbeats 4000000 in
theorem qSettle_any (q : Nat) (room : Int) (A : Option Addr) (n c : Nat) (ws : List Wr) (l : List Int) (w : World) (hQ : QuW w q room A n c ws) (hl : Sml l) (hm : n ≤ 1000000) : Calls Try.prog 18 #[.pointer (some ⟨q, 0, none⟩), .agg (liA l)] w fun e w' => e = .returned (.int .i64 ((ws.length : Int) - ((leftL l ws).length : Int))) ∧ ∃ A' n' c', QuW w' q room A' n' c' (leftL l ws) ∧ QuK q A w w' ∧ ∀ a, A' = some a → w.heap.size ≤ a.block := by
  have hX0 := blk_new w (liA l) 29
  have hB := b0 w (.cells (liA l) 29)
  have hzz : (w.alloc (.cells (liA l) 29)).heap.size = w.heap.size + 1 := by simp
  go_enter Try.func18, Try.ntmps18
  go_upto_region 1 with fail
  generalize (w.alloc (.cells (liA l) 29)) = W0 at hX0 hB hzz ⊢
  generalize hb : w.heap.size = b at hX0 hB hzz ⊢
  have hQ0 := hQ.keep (by rw [hb]; exact hB)
  have hqb : q < b := by rw [← hb]; exact hQ.blk.lt
  clear hQ
  have lq := hQ0.blk.cell 1
  go_upto_region 2 with fail
  have hmw : ws.length ≤ 1000000 := by rw [hQ0.len]; exact hm
  clear lq
  have l0 : ∀ W, (Blk W b (liA l) 29 ∧ ∃ A n c, Blk W q #[.int .i64 room, .slice A n c] 132) → _ := fun W h => ld_liL h.1 hl.1
  have f1 : ∀ W, (Blk W b (liA l) 29 ∧ ∃ A n c, Blk W q #[.int .i64 room, .slice A n c] 132) → _ := fun W _ => qf1 W q
  refine fh_start (S := (fun W => (Blk W b (liA l) 29 ∧ ∃ A n c, Blk W q #[.int .i64 room, .slice A n c] 132))) (by kernel_rfl) (⟨hX0, A, n, c, hQ0.blk⟩) (fun hS => ?_)
  generalize ha : Act.mk _ _ = a0
  have hn : a0.tmps.size = 27 := by rw [← ha]; kernel_rfl
  have h0 : (fr a0 []).eval (.tmp 0) = .pointer (some ⟨q, 0, none⟩) := by rw [← ha]; kernel_rfl
  refine fh_know hn rfl h0 ?_
  clear h0
  have h3 : (fr a0 [(0, true, .pointer (some ⟨q, 0, none⟩))]).eval (.tmp 3) = .pointer (some ⟨b, 0, none⟩) := by rw [← ha]; kernel_rfl
  refine fh_know hn rfl h3 ?_
  clear h3
  refine h_mv 0 hn hS ?_
  refine h_ld 1 hn hS ?_
  refine h_mv 2 hn hS ?_
  refine h_nc 3 hn hS ?_
  refine h_fd 4 hn hS ?_
  refine h_one 5 hn hS (fun hk => x_ld (lk_at hk (i := 15) rfl (fun _ => rfl) rfl) (ld_slW (W := W0.drew) (hQ0.blk.cell 1))) ?_
  refine h_c2 6 en_spinney_roster_Left hn (R := fun v w2 => ∃ A2 n2 c2, v = .slice A2 n2 c2 ∧ OwnX tWr 10 W0.heap.size w2 A2 n2 c2 ((leftL l ws).map Wr.cells) ∧ Below W0.heap.size W0 w2) ((left_any l A n c ws W0.drew hl hQ0.len hQ0.own.rdw (Nat.le_refl _) hm hQ0.fit).mono fun e _ h => by
    obtain ⟨A2, n2, c2, rfl, h2, h3⟩ := h
    exact ⟨_, rfl, A2, n2, c2, rfl, h2, (bel_un h3)⟩) ?_
  rintro v w2 ⟨A2, n2, c2, rfl, hO2, hB2⟩
  refine ⟨⟨hX0.keep hB2, A, n, c, hQ0.blk.keep hB2⟩, ?_⟩
  have hS : (Blk w2 b (liA l) 29 ∧ ∃ A n c, Blk w2 q #[.int .i64 room, .slice A n c] 132) := ⟨hX0.keep hB2, A, n, c, hQ0.blk.keep hB2⟩
  refine h_nc 7 hn hS ?_
  refine h_fd 8 hn hS ?_
  have hQ2 := hQ0.blk.keep hB2
  have hQ3 := hQ2.set 1 (.slice A2 n2 c2)
  have ho := only_cell w2 q 1 (.slice A2 n2 c2)
  refine h_st 9 (st_qsl hQ2 A2 n2 c2) ⟨(hX0.keep hB2).only ho (by omega), A2, n2, c2, hQ3⟩ ?_
  refine fh_end (by kernel_rfl) ?_
  clear hn
  subst ha
  dsimp only [fr, cnd, Act.put, cond_true]
  simp only [List.setIfInBounds_toArray, List.set_cons_zero, List.set_cons_succ]
  have hz := hB2.size
  have hO3 : OwnX tWr 10 (q + 1) (w2.setCell ⟨q, 1, none⟩ (.slice A2 n2 c2)) A2 n2 c2 ((leftL l ws).map Wr.cells) := (hO2.onlyG ho (by omega)).less (by omega)
  have hQn : QuW (w2.setCell ⟨q, 1, none⟩ (.slice A2 n2 c2)) q room A2 n2 c2 (leftL l ws) := ⟨hQ3, hO3, hQ0.fitL l⟩
  have hKn : QuK q A w (w2.setCell ⟨q, 1, none⟩ (.slice A2 n2 c2)) := ⟨ho.os.trans (hB2.os.trans hB.os), ho.tape.trans (hB2.tape.trans hB.tape), ho.output.trans (hB2.output.trans hB.output), by have := ho.size; have := hB.size; omega, fun k hk hkq _ => by
    rw [ho.block k hkq, hB2.block k (by have := hB.size; omega), hB.block k (by omega)]⟩
  have hnew : ∀ a, A2 = some a → w.heap.size ≤ a.block := fun a ha => by have := (hO2.blk ha).1; omega
  have hl1 := hQ0.len
  have hl2 := hQn.len
  have hle := leftL_len l ws
  have cq := hQ3.cell 1
  have R : Hid ((n : Int) - (n2 : Int) = (ws.length : Int) - ((leftL l ws).length : Int)) := by show _ = _; omega
  have wr : IntKind.i64.wrap ((n : Int) - (n2 : Int)) = (n : Int) - (n2 : Int) := wrapS (by omega)
  clear l0 f1 hX0 hB hQ0 hB2 hO2 hQ2 hQ3 ho hO3 hl1 hl2 hle hS
  generalize w2.setCell ⟨q, 1, none⟩ (.slice A2 n2 c2) = w3 at *
  go_wp2_with fail
  go_ret
  exact ⟨ret_i64 R.out, A2, n2, c2, hQn, hKn, hnew⟩
end Go.Proofs.Ytkfhkfddhijkcaa
