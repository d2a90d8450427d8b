/-
  WHAT IS PROVED: roster's Left, and the document's: a row of their own of the writes that aren't old. Conditions: those typed in each theorem.
-/
import Derived.Test.YtkfhkfddhijkcaaRoD
import Derived.Test.YtkfhkfddhijkcaaApM
import Derived.Test.YtkfhkfddhijkcaaFv
import Derived.Great.BuildSlice
namespace Go.Proofs.Ytkfhkfddhijkcaa
open Go.RowKit

theorem en_spinney_fresh_Write : ∀ args w, (callFunc 74 args).run Try.prog w = .ok (.enter 74 args) w := enters_of Try.func74 (by kernel_rfl) rfl

/-- The writes that aren't old. -/
def notOld (l : List Int) (x : Wr) : Bool := askI l x.dev x.seq != 6
def leftL (l : List Int) (ws : List Wr) : List Wr := ws.filter (notOld l)
theorem leftL_next (l : List Int) {ws : List Wr} {k : Nat} {x : Wr} (hx : ws[k]? = some x) : leftL l (ws.take (k + 1)) = bif notOld l x then leftL l (ws.take k) ++ [x] else leftL l (ws.take k) := by
  unfold leftL
  rw [List.take_add_one, hx, List.filter_append]
  cases h : notOld l x with
  | true => simp [h]
  | false => simp [h]
theorem leftL_len (l : List Int) (ws : List Wr) : (leftL l ws).length ≤ ws.length := List.length_filter_le ..
/-- A row of the call's own, answered. -/
def OwnR (ks : List Wr) (w : World) (e : Ending) (w' : World) : Prop := ∃ A n c, e = .returned (.slice A n c) ∧ OwnX tWr 10 w.heap.size w' A n c (ks.map Wr.cells) ∧ Below w.heap.size w w'
theorem bs1W (x : Wr) (w : World) : (Instr.buildSlice 30 1 #[(0, .agg x.cells)]).run Try.prog w = .ok (.slice (some ⟨w.heap.size, 0, none⟩) 1 1) (w.alloc (.cells x.cells tWr)) := by
  obtain ⟨i0, hi0, hz0, hs0, hb0⟩ := info_parts wr_infoM
  obtain ⟨dev, seq, K, ky, ka, na, sa, kb, nb, sb⟩ := x
  refine run_buildSlice w 30 tWr 1 _ _ i0 _ Try.underlying30 hi0 hz0 (by rw [hs0]; decide) (by rw [hs0]; decide) ?_
  rw [hs0]
  kernel_rfl
theorem g_bs1 {l : List Oper} {Q : Exit → Act → World → Prop} {rest : List Oper} {a0 : Act} {L : List (Nat × Bool × Value)} {w : World} {i d n : Nat} {x : Wr} {ty : TypeId} {p : String} {af : Array Edge} (hn : a0.tmps.size = n)
    (h : ∀ g w2, g = w.heap.size → Blk w2 g x.cells tWr → Below w.heap.size w w2 → FL Try.prog l Q rest a0 ((d, true, .slice (some ⟨g, 0, none⟩) 1 1) :: L) w2) (hi : lk L i = some (true, .agg x.cells) := by rfl) (hd : Nat.blt d n = true := by rfl) : FL Try.prog l Q (⟨some d, .buildSlice 30 1 #[(0, .tmp i)], ty, p, af, none⟩ :: rest) a0 L w :=
  g_w hn (w2 := w.alloc (.cells x.cells tWr)) (v := .slice (some ⟨w.heap.size, 0, none⟩) 1 1) (fun hk => by
    have e : (#[(0, Operand.tmp i)] : Array (Nat × Operand)).map (fun y => (y.fst, (fr a0 L).eval y.snd)) = #[(0, .agg x.cells)] := by simp only [List.map_toArray, List.map_cons, List.map_nil, lk_at hk hi (fun _ => rfl) rfl]
    have h2 := bs1W x w
    rw [← e] at h2
    unfold execOp
    dsimp only
    rw [Sem.run_bind]
    refine (congrArg (fun r => Result.andThen r _) h2).trans ?_
    rfl) (h _ _ rfl (blk_new w x.cells tWr) (b0 w _)) rfl hd rfl
theorem blk_rdw {W : World} {g : Nat} {x : Wr} {t : TypeId} (h : Blk W g x.cells t) : RdW (g + 1) W (some ⟨g, 0, none⟩) [x] := fun k y hy => by
  match k, hy with
  | 0, hy =>
    have e : x = y := by simpa using hy
    subst e
    refine ⟨_, rfl, Nat.lt_succ_self _, fun j v hv => ?_⟩
    rw [Nat.zero_mul, Nat.zero_add, zeroX_at, h.cell j]
    exact hv
set_option maxRecDepth 100000 in
set_option maxHeartbeats 4000000 in
theorem left_any {C : Nat} (l : List Int) (A : Option Addr) (n c : Nat) (ws : List Wr) (w : World) (hl : Sml l) (hn0 : ws.length = n) (hr : RdW C w A ws) (hC : C ≤ w.heap.size) (hm : n ≤ 1000000) (hf : ∀ x, x ∈ ws → x.ky.size ≤ 1000000 ∧ x.sa.size ≤ 1000000 ∧ x.sb.size ≤ 1000000) : Calls Try.prog 70 #[.agg (liA l), .slice A n c] w (OwnR (leftL l ws) w) := by
  have HN := Lib.hid hn0
  have HR := Lib.hid (fun W hb => hr.keep (W' := W) hb hC)
  have HF := Lib.hid hf
  clear hn0 hr hf
  have hX0 := blk_new w (liA l) 29
  have hB := b0 w (.cells (liA l) 29)
  have hzz : (w.alloc (.cells (liA l) 29)).heap.size = w.heap.size + 1 := by simp
  go_enter Try.func70, Try.ntmps70
  go_upto_region 1 with fail
  generalize (w.alloc (.cells (liA l) 29)) = W0 at hX0 hB hzz ⊢
  generalize hb : w.heap.size = b at hX0 hB hzz ⊢
  have hO0 := OwnX.nil tWr 10 (b + 1) W0
  go_wp2_with fail
  go_loopw [5, 7, 10] (fun u5 _ i wr => ∃ (k : Nat) (A5 : Option Addr) (n5 c5 : Nat), k ≤ n ∧ i = .int .i64 k ∧ u5 = .slice A5 n5 c5 ∧ OwnX tWr 10 (b + 1) wr A5 n5 c5 ((leftL l (ws.take k)).map Wr.cells) ∧ Blk wr b (liA l) 29 ∧ Below b w wr) (fun _ _ i _ => n - (intOf i).toNat)
  case atStart => exact ⟨0, none, 0, 0, Nat.zero_le _, rfl, rfl, by rw [List.take_zero]; exact hO0, hX0, hB⟩
  case round =>
    clear hX0 hB hO0
    obtain ⟨k, A5, n5, c5, hk, rfl, rfl, hO, hX0, hB⟩ := hrel
    by_cases hlt : k < n
    · obtain ⟨x, hx⟩ : ∃ x, ws[k]? = some x := ⟨_, List.getElem?_eq_getElem (show k < ws.length by have := HN.out; omega)⟩
      obtain ⟨ad, rfl, hadb, hc⟩ := HR.out wr (by rw [hb]; exact hB) k x hx
      have HX := Lib.hid (leftL_next l hx)
      have hxf := HF.out x (List.mem_of_getElem? hx)
      clear hx
      have i2 : (k : Int) < (n : Int) := by omega
      have ix := wix wr ad n c k hlt
      have ld := wld hc
      go_upto_region 4 with fail
      refine wp_region_lit ?_
      refine fl_start ?_
      generalize ha : Act.mk _ _ = a0
      have hn : a0.tmps.size = 26 := by rw [← ha]; kernel_rfl
      have h8 : (fr a0 []).eval (.tmp 8) = .slice (some ad) n c := by rw [← ha]; kernel_rfl
      refine fl_know hn rfl h8 ?_
      clear h8
      have h10 : (fr a0 [(8, true, .slice (some ad) n c)]).eval (.tmp 10) = .int .i64 (k : Int) := by rw [← ha]; kernel_rfl
      refine fl_know hn rfl h10 ?_
      clear h10
      refine g_ix hn ?_
      refine g_ld hn ?_
      refine al_row hn (alW wr) ?_
      intro g w2 hg hY hB2
      refine g_str hY ?_ (h1 := wr_oneC x)
      intro w3 ho hY3
      refine fl_end ?_
      clear hn
      subst ha
      dsimp only [fr, cnd, Act.put, cond_true]
      simp only [List.setIfInBounds_toArray, List.set_cons_zero, List.set_cons_succ]
      have hW3 : Below wr.heap.size wr w3 := hB2.trans (ho.below (by omega))
      have hX03 := hX0.keep hW3
      have hO3 := hO.keep hW3
      have hB3 : Below b w w3 := hB.trans (hW3.mono (by have := hX0.lt; omega))
      have hb3 : b + 1 ≤ w3.heap.size := hX03.lt
      clear ix ld hc hY hX0 hB hB2 ho hO hW3
      have l1 : ∀ W, Kp w3 W → (Instr.loadAt 29 (.pointer (some ⟨b, 0, none⟩))).run Try.prog W = .ok (.agg (liA l)) W := fun W h => ld_liL (h.blk hX03) hl.1
      have f0 : ∀ W, Kp w3 W → (Instr.fieldAt 39 (.pointer (some ⟨g, 0, none⟩)) 0).run Try.prog W = .ok (.pointer (some ⟨g, 0, none⟩)) W := fun W _ => wfd0 W ⟨g, 0, none⟩
      have l0 : ∀ W, Kp w3 W → (Instr.loadAt 32 (.pointer (some ⟨g, 0, none⟩))).run Try.prog W = .ok (.agg #[.int .i64 x.dev, .int .i64 x.seq]) W := fun W h => ild ((h.blk hY3).cell 0) ((h.blk hY3).cell 1)
      have c1 : ∀ W, Kp w3 W → _ := kp_c fun W _ => ask_any l x.dev x.seq W hl
      go_upto_region 5 with fail
      refine wp_region_lit ?_
      refine fs_start (Kp w3) (Kp.refl _) ?_
      generalize ha : Act.mk _ _ = a0
      have hn : a0.tmps.size = 26 := by rw [← ha]; kernel_rfl
      have h2 : (fr a0 []).eval (.tmp 2) = .pointer (some ⟨b, 0, none⟩) := by rw [← ha]; kernel_rfl
      refine fs_know hn rfl h2 ?_
      clear h2
      have h7 : (fr a0 [(2, true, .pointer (some ⟨b, 0, none⟩))]).eval (.tmp 7) = .pointer (some ⟨g, 0, none⟩) := by rw [← ha]; kernel_rfl
      refine fs_know hn rfl h7 ?_
      clear h7
      refine s_ld hn ?_
      refine s_fd hn ?_
      refine s_ld hn ?_
      refine s_calltt hn ?_ (he := en_spinney_roster_Ask)
      refine s_bc hn ?_ (hx := fun W _ => er_neq _ _ _ W)
      refine fs_end (fun w4 hS => ?_)
      clear hn
      subst ha
      dsimp only [fr, cnd, Act.put, cond_true]
      simp only [List.setIfInBounds_toArray, List.set_cons_zero, List.set_cons_succ]
      have hX04 := hS.blk hX03
      have hY4 := hS.blk hY3
      have hO4 := hO3.keep hS
      have hB4 : Below b w w4 := hB3.trans (hS.below.mono (by omega))
      have hb4 : b + 1 ≤ w4.heap.size := hX04.lt
      clear l1 f0 l0 c1 hX03 hY3 hO3 hB3 hS
      have HX2 : Hid (leftL l (ws.take (k + 1)) = bif askI l x.dev x.seq != 6 then leftL l (ws.take k) ++ [x] else leftL l (ws.take k)) := HX.out
      clear HX
      cases hd : askI l x.dev x.seq != 6 with
      | false =>
        rw [hd] at HX2
        have HX3 : Hid (leftL l (ws.take (k + 1)) = leftL l (ws.take k)) := HX2.out
        clear hd HX2 hY4
        go_wp2_with fail
        go_roundw
        case rel => exact ⟨k + 1, A5, n5, c5, by omega, by go_num, by first | rfl | trivial, by rw [HX3.out]; exact hO4, hX04, hB4⟩
        case measure => simp [intOf]; omega
      | true =>
        rw [hd] at HX2
        have HX3 : Hid (leftL l (ws.take (k + 1)) = leftL l (ws.take k) ++ [x]) := HX2.out
        clear hd HX2
        have hn5 : n5 ≤ k := by
          have h := hO4.len
          rw [List.length_map] at h
          have := leftL_len l (ws.take k)
          rw [List.length_take] at this
          omega
        have lY := wld_blk hY4
        have cF := freshWr_any x w4 hxf.1 hxf.2.1 hxf.2.2
        go_upto_region 6 with fail
        refine wp_region_lit ?_
        refine fl_start ?_
        generalize ha : Act.mk _ _ = a0
        have hn : a0.tmps.size = 26 := by rw [← ha]; kernel_rfl
        have h5 : (fr a0 []).eval (.tmp 5) = .slice A5 n5 c5 := by rw [← ha]; kernel_rfl
        refine fl_know hn rfl h5 ?_
        clear h5
        have h7 : (fr a0 [(5, true, .slice A5 n5 c5)]).eval (.tmp 7) = .pointer (some ⟨g, 0, none⟩) := by rw [← ha]; kernel_rfl
        refine fl_know hn rfl h7 ?_
        clear h7
        refine g_mv hn ?_
        refine g_ld hn ?_
        refine g_c1x en_spinney_fresh_Write hn (R := fun v w2 => v = .agg x.cells ∧ Below w4.heap.size w4 w2) (cF.mono fun _ _ ⟨he, hw⟩ => ⟨_, he, rfl, hw⟩) ?_
        rintro v w5 ⟨rfl, hB5⟩
        refine g_bs1 hn ?_
        intro g6 w6 hg6 hY6 hB6
        have hW6 : Below w4.heap.size w4 w6 := hB5.trans (hB6.mono hB5.size)
        have hO6 := hO4.keep hW6
        refine g_apW (m := 1) (n := n5) (base := b + 1) hn hO6 (blk_rdw hY6) rfl (by omega) (by have := hW6.size; omega) (.inr (by omega)) ?_
        rintro v7 w7 ⟨A7, c7, rfl, hO7, hB7, _⟩
        refine g_as hn ?_
        refine fl_end ?_
        clear hn
        subst ha
        dsimp only [fr, cnd, Act.put, cond_true]
        simp only [List.setIfInBounds_toArray, List.set_cons_zero, List.set_cons_succ]
        have hX07 := (hX04.keep hW6).keep' hB7 (by omega)
        have hB7' : Below b w w7 := (hB4.trans (hW6.mono (by omega))).trans (hB7.mono (by omega))
        rw [← HX3.out] at hO7
        clear lY cF hX04 hY4 hO4 hB4 hB5 hY6 hB6 hW6 hO6 hB7
        go_wp2_with fail
        go_roundw
        case rel => exact ⟨k + 1, A7, n5 + 1, c7, by omega, by go_num, by first | rfl | trivial, hO7, hX07, hB7'⟩
        case measure => simp [intOf]; omega
    · have e : k = n := by omega
      subst e
      rw [List.take_of_length_le (by have := HN.out; omega)] at hO
      have hO2 := hO.less (show b ≤ b + 1 by omega)
      clear hO
      go_wp2_with fail
      go_ret
      exact ⟨A5, n5, c5, rfl, by first | exact hO2 | (rw [hb]; exact hO2), by first | exact hB | (rw [hb]; exact hB)⟩
/-! The document's. -/
set_option maxRecDepth 100000 in
set_option maxHeartbeats 4000000 in
theorem refLeft_any {C : Nat} (l : List Int) (A : Option Addr) (n c : Nat) (ws : List Wr) (w : World) (hl : Sml l) (hn0 : ws.length = n) (hr : RdW C w A ws) (hC : C ≤ w.heap.size) (hm : n ≤ 1000000) (hf : ∀ x, x ∈ ws → nodeB x.dev = true ∧ -1000 ≤ x.seq ∧ x.seq ≤ 1000) : Calls Try.prog 23 #[.agg (liA l), .slice A n c] w (OwnR (leftL l ws) w) := by
  have HN := Lib.hid hn0
  have HR := Lib.hid (fun W hb => hr.keep (W' := W) hb hC)
  have HF := Lib.hid hf
  clear hn0 hr hf
  have hX0 := blk_new w (liA l) 28
  have hB := b0 w (.cells (liA l) 28)
  have hzz : (w.alloc (.cells (liA l) 28)).heap.size = w.heap.size + 1 := by simp
  go_enter Try.func23, Try.ntmps23
  go_upto_region 1 with fail
  generalize (w.alloc (.cells (liA l) 28)) = W0 at hX0 hB hzz ⊢
  generalize hb : w.heap.size = b at hX0 hB hzz ⊢
  have hO0 := OwnX.nil tWr 10 (b + 1) W0
  go_wp2_with fail
  go_loopw [5, 6, 9] (fun u5 _ i wr => ∃ (k : Nat) (A5 : Option Addr) (n5 c5 : Nat), k ≤ n ∧ i = .int .i64 k ∧ u5 = .slice A5 n5 c5 ∧ OwnX tWr 10 (b + 1) wr A5 n5 c5 ((leftL l (ws.take k)).map Wr.cells) ∧ Blk wr b (liA l) 28 ∧ Below b w wr) (fun _ _ i _ => n - (intOf i).toNat)
  case atStart => exact ⟨0, none, 0, 0, Nat.zero_le _, rfl, rfl, by rw [List.take_zero]; exact hO0, hX0, hB⟩
  case round =>
    clear hX0 hB hO0
    obtain ⟨k, A5, n5, c5, hk, rfl, rfl, hO, hX0, hB⟩ := hrel
    by_cases hlt : k < n
    · obtain ⟨x, hx⟩ : ∃ x, ws[k]? = some x := ⟨_, List.getElem?_eq_getElem (show k < ws.length by have := HN.out; omega)⟩
      obtain ⟨ad, rfl, hadb, hc⟩ := HR.out wr (by rw [hb]; exact hB) k x hx
      have HX := Lib.hid (leftL_next l hx)
      obtain ⟨hnd, hq1, hq2⟩ := HF.out x (List.mem_of_getElem? hx)
      obtain ⟨dn, hdn, ed⟩ := nodeB_nat hnd
      clear hx hnd
      have i2 : (k : Int) < (n : Int) := by omega
      have hb3 : b + 1 ≤ wr.heap.size := hX0.lt
      have hadl : (ad.add (k * 10)).block < wr.heap.size := World.block_lt_of_cell? wr _ (hc 0 _ rfl)
      rw [add_block] at hadl
      have hcW : ∀ W, Kp wr W → ∀ j v, x.cells[j]? = some v → W.cell? (ad.add (k * 10 + j)) = some v := fun W h j v hv => (h.below.cell (by rw [add_block]; exact hadl)).trans (hc j v hv)
      have ix : ∀ W, Kp wr W → _ := fun W _ => wix W ad n c k hlt
      have l1 : ∀ W, Kp wr W → (Instr.loadAt 28 (.pointer (some ⟨b, 0, none⟩))).run Try.prog W = .ok (.agg (liA l)) W := fun W h => ld_liA (h.blk hX0) hl.1
      have f0 : ∀ W, Kp wr W → _ := fun W _ => wfd0 W (ad.add (k * 10))
      have l0 : ∀ W, Kp wr W → (Instr.loadAt 32 (.pointer (some (ad.add (k * 10))))).run Try.prog W = .ok (.agg #[.int .i64 (dn : Int), .int .i64 x.seq]) W := fun W h => by
        obtain ⟨c0, c1, _⟩ := wr_cells (hcW W h)
        rw [ed] at c0
        exact ild c0 c1
      have c1 : ∀ W, Kp wr W → _ := kp_c fun W _ => refAsk_any l dn x.seq W hl hdn ⟨hq1, hq2⟩
      go_upto_region 5 with fail
      refine fc_start (S := Kp wr) (by kernel_rfl) (Kp.drew _) ?_
      generalize ha : Act.mk _ _ = a0
      have hn : a0.tmps.size = 29 := by rw [← ha]; kernel_rfl
      have h1 : (fr a0 []).eval (.tmp 1) = .slice (some ad) n c := by rw [← ha]; kernel_rfl
      refine fc_know hn rfl h1 ?_
      clear h1
      have h2 : (fr a0 [(1, true, .slice (some ad) n c)]).eval (.tmp 2) = .pointer (some ⟨b, 0, none⟩) := by rw [← ha]; kernel_rfl
      refine fc_know hn rfl h2 ?_
      clear h2
      have h6 : (fr a0 [(2, true, .pointer (some ⟨b, 0, none⟩)), (1, true, .slice (some ad) n c)]).eval (.tmp 6) = .int .i64 (k : Int) := by rw [← ha]; kernel_rfl
      refine fc_know hn rfl h6 ?_
      clear h6
      refine c_ld 0 hn ?_
      refine c_mv 1 hn ?_
      refine c_mv 2 hn ?_
      refine c_ix 3 hn ?_
      refine c_fd 4 hn ?_
      refine c_ld 5 hn ?_
      refine c_calltt 6 hn ?_ (he := en_spinney_spinneyref13_Ask)
      refine c_neq 7 hn ?_
      refine fc_end (fun w4 hS => ?_)
      clear hn
      subst ha
      dsimp only [fr, cnd, Act.put, cond_true]
      simp only [List.setIfInBounds_toArray, List.set_cons_zero, List.set_cons_succ]
      have hX04 := hS.blk hX0
      have hO4 := hO.keep hS
      have hB4 : Below b w w4 := hB.trans (hS.below.mono (by omega))
      have hb4 : b + 1 ≤ w4.heap.size := hX04.lt
      have ix4 := ix w4 hS
      have ld4 := wld (hcW w4 hS)
      clear ix l1 f0 l0 c1 hX0 hO hB hS hcW hc
      have HX2 : Hid (leftL l (ws.take (k + 1)) = bif askI l (dn : Int) x.seq != 6 then leftL l (ws.take k) ++ [x] else leftL l (ws.take k)) := by rw [← ed]; exact HX.out
      clear HX
      cases hd : askI l (dn : Int) x.seq != 6 with
      | false =>
        rw [hd] at HX2
        have HX3 : Hid (leftL l (ws.take (k + 1)) = leftL l (ws.take k)) := HX2.out
        clear hd HX2 ix4 ld4
        go_wp2_with fail
        go_roundw
        case rel => exact ⟨k + 1, A5, n5, c5, by omega, by go_num, by first | rfl | trivial, by rw [HX3.out]; exact hO4, hX04, hB4⟩
        case measure => simp [intOf]; omega
      | true =>
        rw [hd] at HX2
        have HX3 : Hid (leftL l (ws.take (k + 1)) = leftL l (ws.take k) ++ [x]) := HX2.out
        clear hd HX2
        have hn5 : n5 ≤ k := by
          have h := hO4.len
          rw [List.length_map] at h
          have := leftL_len l (ws.take k)
          rw [List.length_take] at this
          omega
        go_upto_region 6 with fail
        refine wp_region_lit ?_
        refine fl_start ?_
        generalize ha : Act.mk _ _ = a0
        have hn : a0.tmps.size = 29 := by rw [← ha]; kernel_rfl
        have h1 : (fr a0 []).eval (.tmp 1) = .slice (some ad) n c := by rw [← ha]; kernel_rfl
        refine fl_know hn rfl h1 ?_
        clear h1
        have h5 : (fr a0 [(1, true, .slice (some ad) n c)]).eval (.tmp 5) = .slice A5 n5 c5 := by rw [← ha]; kernel_rfl
        refine fl_know hn rfl h5 ?_
        clear h5
        have h6 : (fr a0 [(5, true, .slice A5 n5 c5), (1, true, .slice (some ad) n c)]).eval (.tmp 6) = .int .i64 (k : Int) := by rw [← ha]; kernel_rfl
        refine fl_know hn rfl h6 ?_
        clear h6
        refine g_mv hn ?_
        refine g_mv hn ?_
        refine g_mv hn ?_
        refine g_ix hn ?_
        refine g_ld hn ?_
        refine g_bs1 hn ?_
        intro g6 w6 hg6 hY6 hB6
        have hO6 := hO4.keep hB6
        refine g_apW (m := 1) (n := n5) (base := b + 1) hn hO6 (blk_rdw hY6) rfl (by omega) (by have := hB6.size; omega) (.inr (by omega)) ?_
        rintro v7 w7 ⟨A7, c7, rfl, hO7, hB7, _⟩
        refine g_as hn ?_
        refine fl_end ?_
        clear hn
        subst ha
        dsimp only [fr, cnd, Act.put, cond_true]
        simp only [List.setIfInBounds_toArray, List.set_cons_zero, List.set_cons_succ]
        have hX07 := (hX04.keep hB6).keep' hB7 (by omega)
        have hB7' : Below b w w7 := (hB4.trans (hB6.mono (by omega))).trans (hB7.mono (by omega))
        rw [← HX3.out] at hO7
        clear ix4 ld4 hX04 hO4 hB4 hY6 hB6 hO6 hB7
        go_wp2_with fail
        go_roundw
        case rel => exact ⟨k + 1, A7, n5 + 1, c7, by omega, by go_num, by first | rfl | trivial, hO7, hX07, hB7'⟩
        case measure => simp [intOf]; omega
    · have e : k = n := by omega
      subst e
      rw [List.take_of_length_le (by have := HN.out; omega)] at hO
      have hO2 := hO.less (show b ≤ b + 1 by omega)
      clear hO
      go_wp2_with fail
      go_ret
      exact ⟨A5, n5, c5, rfl, by first | exact hO2 | (rw [hb]; exact hO2), by first | exact hB | (rw [hb]; exact hB)⟩
end Go.Proofs.Ytkfhkfddhijkcaa
