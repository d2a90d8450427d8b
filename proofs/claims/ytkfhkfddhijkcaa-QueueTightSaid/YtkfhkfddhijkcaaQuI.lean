/-
  WHAT IS PROVED: the law QueueTight returns true. Conditions: those typed in each theorem.
-/
import Derived.Test.YtkfhkfddhijkcaaQuH
namespace Go.Proofs.Ytkfhkfddhijkcaa
open Go.RowKit

theorem en_spinney_spinneyref03_Good : ∀ args w, (callFunc 16 args).run Try.prog w = .ok (.enter 16 args) w := enters_of Try.func16 (by kernel_rfl) rfl

/-- What holds behind each act. -/
structure QtI (w0 W : World) (q z : Nat) (k : Nat) (T : List Wr) (N : List Int) (A : Option Addr) (n c : Nat) (B : Option Addr) (m d : Nat) : Prop where
  ch : Chn T
  len : N.length = 12
  le : LeL N (ofL zL T)
  pos : ∀ j, 0 ≤ gI N j
  room : n ≤ k
  qu : QuW W q (k : Int) A n c (leftL N T)
  own : OwnX tWr 10 (z + 1) W B m d (T.map Wr.cells)
  ap : Apart A B
  now : Blk W z (liA N) 29
  keep : Below w0.heap.size w0 W
theorem QtI.tl {w0 W : World} {q z k : Nat} {T : List Wr} {N : List Int} {A : Option Addr} {n c : Nat} {B : Option Addr} {m d : Nat} (h : QtI w0 W q z k T N A n c B m d) : T.length = m := by
  have := h.own.len
  rwa [List.length_map] at this
theorem QtI.sml {w0 W : World} {q z k : Nat} {T : List Wr} {N : List Int} {A : Option Addr} {n c : Nat} {B : Option Addr} {m d : Nat} (h : QtI w0 W q z k T N A n c B m d) : Sml N :=
  ⟨h.len, fun j => by have := h.pos j; have := h.le j; have := (h.ch.sml j).2; omega⟩
theorem QtI.on {w0 W W' : World} {q z k : Nat} {T : List Wr} {N : List Int} {A : Option Addr} {n c : Nat} {B : Option Addr} {m d : Nat} (h : QtI w0 W q z k T N A n c B m d) (hb : Below W.heap.size W W') : QtI w0 W' q z k T N A n c B m d :=
  ⟨h.ch, h.len, h.le, h.pos, h.room, h.qu.keep hb, h.own.keep hb, h.ap, h.now.keep hb, h.keep.trans (hb.mono h.keep.size)⟩
theorem QtI.lasts {w0 W : World} {q z k : Nat} {T : List Wr} {N : List Int} {A : Option Addr} {n c : Nat} {B : Option Addr} {m d : Nat} (h : QtI w0 W q z k T N A n c B m d) : ofL N (leftL N T) = ofL zL T := h.ch.lasts h.len h.pos h.le
theorem QtI.fitT {w0 W : World} {q z k : Nat} {T : List Wr} {N : List Int} {A : Option Addr} {n c : Nat} {B : Option Addr} {m d : Nat} (h : QtI w0 W q z k T N A n c B m d) : ∀ x, x ∈ T → Fit x := fun x hx => good_len (h.ch.good hx)
theorem OwnX.notat {base g : Nat} {W : World} {A : Option Addr} {n c : Nat} {ws : List Wr} (h : OwnX tWr 10 base W A n c (ws.map Wr.cells)) (hg : g < base) : ∀ a, A = some a → a.block ≠ g := fun a ha => by have := (h.blk ha).1; omega
/-- Behind what was known more. -/
theorem QtI.settled {w0 W W' : World} {q z k : Nat} {T : List Wr} {N M : List Int} {A A' : Option Addr} {n c n' c' : Nat} {B : Option Addr} {m d : Nat} (h : QtI w0 W q z k T N A n c B m d) (hq : w0.heap.size ≤ q) (hqz : q < z) (hM : M.length = 12) (h1 : LeL N M) (h2 : LeL M (ofL zL T)) (hnow : Blk W z (liA M) 29)
    (hQ : QuW W' q (k : Int) A' n' c' (leftL M (leftL N T))) (hK : QuK q A W W') (hA : ∀ a, A' = some a → W.heap.size ≤ a.block) : QtI w0 W' q z k T M A' n' c' B m d := by
  have e := h.ch.settle (M := N) h1
  have hQ2 : QuW W' q (k : Int) A' n' c' (leftL M T) := by rw [← e]; exact hQ
  refine ⟨h.ch, hM, h2, fun j => by have := h.pos j; have := h1 j; omega, ?_, hQ2, ?_, ?_, ?_, ?_⟩
  · have a1 := hQ.len
    have a2 := h.qu.len
    have a3 := leftL_len M (leftL N T)
    have a4 := h.room
    omega
  · refine h.own.same fun b hb => ?_
    have hlt := (h.own.blk hb)
    exact hK.block _ hlt.2 (by omega) fun a ha => h.ap a b ha hb
  · intro a b ha hb
    have := hA a ha
    have := (h.own.blk hb).2
    omega
  · exact (hK.block z hnow.lt (by omega) (own_ne h.qu.own hnow lt_ne)).trans hnow
  · exact h.keep.trans (hK.below (B := w0.heap.size) hq (fun x hx => h.qu.above x hx) h.keep.size)
theorem QtI.took {w0 W W' : World} {q z k : Nat} {T : List Wr} {N : List Int} {A A' : Option Addr} {n c n' c' : Nat} {B : Option Addr} {m d : Nat} {x : Wr} {e : Nat} (h : QtI w0 W q z k T N A n c B m d) (hq : w0.heap.size ≤ q) (hqz : q < z)
    (hQ : QuW W' q (k : Int) A' n' c' (leftL N T ++ [x])) (hK : QuK q A W W') (hA : A'.map (·.block) = A.map (·.block) ∨ ∀ a, A' = some a → W.heap.size ≤ a.block) :
    OwnX tWr 10 (z + 1) W' B m d (T.map Wr.cells) ∧ Apart A' B ∧ Blk W' z (liA N) 29 ∧ Below w0.heap.size w0 W' := by
  refine ⟨?_, ?_, ?_, ?_⟩
  · refine h.own.same fun b hb => ?_
    have hlt := (h.own.blk hb)
    exact hK.block _ hlt.2 (by omega) fun a ha => h.ap a b ha hb
  · intro a b ha hb
    rcases hA with h1 | h1
    · rw [ha] at h1
      cases hA2 : A with
      | none => rw [hA2] at h1; cases h1
      | some a2 =>
        rw [hA2] at h1
        injection h1 with h1
        have h1 : a.block = a2.block := h1
        rw [h1]
        exact h.ap a2 b hA2 hb
    · have := h1 a ha
      have := (h.own.blk hb).2
      omega
  · exact (hK.block z h.now.lt (by omega) (own_ne h.qu.own h.now lt_ne)).trans h.now
  · exact h.keep.trans (hK.below (B := w0.heap.size) hq (fun x hx => h.qu.above x hx) h.keep.size)
theorem ask_chn {T : List Wr} (hT : Chn T) {x : Wr} (hg : x.good = true) (h0 : askI (ofL zL T) x.dev x.seq = 0) : ∃ d : Nat, x.dev = (d : Int) ∧ d < 12 ∧ x.seq = gI (ofL zL T) d + 1 ∧ x.seq ≤ 40 := by
  obtain ⟨d, hd, e, _, h4⟩ := good_id hg
  refine ⟨d, e, hd, ?_, h4⟩
  rw [e] at h0
  rcases ask_cases hd x.seq (N := ofL zL T) with ⟨_, h2⟩ | ⟨h1, _⟩ | ⟨h1, _⟩
  · exact h2
  · rw [h1] at h0; cases h0
  · rw [h1] at h0; cases h0
set_option maxRecDepth 100000 in
set_option maxHeartbeats 4000000 in
theorem lawTight14_all (x8 : UInt8) (Aa : Option Addr) (na ca : Nat) (qs : List Qa) (w : World) (hna : qs.length = na) (hra : RdX 24 w.heap.size w Aa (qs.map Qa.cells)) (hma : na ≤ maxLen) (hfa : ∀ x, x ∈ qs → x.w.fits) : Calls Try.prog 3 #[.int .u8 (x8.toNat : Int), .slice Aa na ca] w fun e w' => e = .returned (.bool true) ∧ Below w.heap.size w w' := by
  have hx8 := x8.toNat_lt
  generalize x8.toNat = z0 at hx8 ⊢
  have HN := Lib.hid hna
  have HF := Lib.hid hfa
  have HR := Lib.hid (fun W (h : Below w.heap.size w W) => hra.keep (W' := W) h (Nat.le_refl _))
  clear hna hfa hra
  go_enter Try.func3, Try.ntmps3
  go_upto_region 1 with fail
  refine wp_region_lit ?_
  refine fl_start ?_
  generalize ha : Act.mk _ _ = a0
  have hn : a0.tmps.size = 119 := by rw [← ha]; kernel_rfl
  have h0 : (fr a0 []).eval (.tmp 0) = .int .u8 (z0 : Int) := by rw [← ha]; kernel_rfl
  refine fl_know hn rfl h0 ?_
  clear h0
  have hm := Nat.mod_lt z0 (show 0 < 20 by decide)
  have r1 := rem_u8d 16 w z0
  have r2 := cv_8i w (y := z0 % 20) (by omega)
  have r3 := add_1 18 w ((z0 % 20 : Nat) : Int) (by omega)
  refine g_mv hn ?_
  refine g_bc hn ?_
  refine g_cv hn ?_
  refine g_bc hn ?_
  refine g_as hn ?_
  refine fl_end ?_
  clear hn
  subst ha
  dsimp only [fr, cnd, Act.put, cond_true]
  simp only [List.setIfInBounds_toArray, List.set_cons_zero, List.set_cons_succ]
  clear r1 r2 r3 hx8
  obtain ⟨k, hk⟩ : ∃ k : Nat, z0 % 20 + 1 = k := ⟨_, rfl⟩
  rw [show ((z0 % 20 : Nat) : Int) + 1 = (k : Int) by omega]
  replace hm : 1 ≤ k ∧ k ≤ 20 := by omega
  clear hk
  go_wp2_with fail
  refine (qNew_any (k : Int) w (by omega) (by omega)).mono ?_
  rintro e w1 ⟨q, rfl, hq, hQ, hB⟩
  go_wp2_with fail
  refine (awake14_any w1).mono ?_
  rintro e w2 ⟨rfl, hB2⟩
  replace hQ := hQ.keep hB2
  replace hB := hB.trans (hB2.mono hB.size)
  clear hB2
  by_cases hn : 100 < na
  · have hn2 : (100 : Int) < (na : Int) := by omega
    go_wp2_with fail
    refine (awake14_any w2).mono ?_
    rintro e w3 ⟨rfl, hB3⟩
    replace hB := hB.trans (hB3.mono hB.size)
    clear hQ hB3
    go_wp2_with fail
    go_ret
    exact ⟨rfl, hB⟩
  have hn2 : ¬ (100 : Int) < (na : Int) := by omega
  go_upto_region 5 with fail
  refine wp_region_lit ?_
  refine fl_start ?_
  generalize ha : Act.mk _ _ = a0
  have hn : a0.tmps.size = 119 := by rw [← ha]; kernel_rfl
  refine fl_op (v := .agg (liA zL)) hn rfl (by rfl) rfl (fun hk _ => x_bdQ (vs := #[]) (by simp) (bdLa0 w2)) ?_
  refine al_row hn (alLa w2) ?_
  intro z w3 hz hZ1 hB2
  refine g_str hZ1 ?_ (h1 := li_one zL) (hi := by kernel_rfl)
  intro w4 ho hZ
  refine fl_end ?_
  clear hn
  subst ha
  dsimp only [fr, cnd, Act.put, cond_true]
  simp only [List.setIfInBounds_toArray, List.set_cons_zero, List.set_cons_succ]
  have hqz : q < z := by have := hQ.blk.lt; omega
  replace hB2 := hB2.trans (ho.below (by omega))
  replace hQ := hQ.keep hB2
  replace hB := hB.trans (hB2.mono hB.size)
  clear hZ1 hB2 ho
  have hI0 : QtI w w4 q z k [] zL none 0 0 none 0 0 := ⟨.nil, rfl, fun _ => Int.le_refl _, fun j => by rw [zL_gI]; exact Int.le_refl _, by omega, hQ, OwnX.nil _ _ _ _, (fun _ _ h => nomatch h), hZ, hB⟩
  clear hQ hZ hB
  go_wp2_with fail
  go_loopw [9, 11, 12, 14, 15, 44] (fun u9 _ _ _ _ u44 wr => ∃ (i : Nat) (T : List Wr) (N : List Int) (A : Option Addr) (n c : Nat) (B : Option Addr) (m d : Nat), i ≤ na ∧ u44 = .int .i64 i ∧ u9 = .slice B m d ∧ m ≤ i ∧ QtI w wr q z k T N A n c B m d) (fun _ _ _ _ _ u44 _ => na - (intOf u44).toNat)
  case atStart => exact ⟨0, [], zL, none, 0, 0, none, 0, 0, Nat.zero_le _, rfl, rfl, Nat.le_refl _, hI0⟩
  case round =>
    clear hI0
    obtain ⟨i, T, N, A, n, c, B, m, d, hi, rfl, rfl, hmi, hI⟩ := hrel
    by_cases hlt : i < na
    rotate_left
    · have i2 : ¬ (i : Int) < (na : Int) := by omega
      have hB := hI.keep
      clear hI
      go_wp2_with fail
      go_ret
      exact ⟨rfl, hB⟩
    have i2 : (i : Int) < (na : Int) := by omega
    obtain ⟨x, hx⟩ : ∃ x, qs[i]? = some x := ⟨_, List.getElem?_eq_getElem (show i < qs.length by have := HN.out; omega)⟩
    obtain ⟨ad, rfl, hadb, hc⟩ := HR.out wr hI.keep i x.cells (by rw [List.getElem?_map, hx]; rfl)
    have hxf := HF.out x (List.mem_of_getElem? hx)
    clear hx
    have ix := aix wr ad na ca i hlt
    have ld := ald hc
    clear hc
    go_upto_region 9 with fail
    refine wp_region_lit ?_
    refine fl_start ?_
    generalize ha : Act.mk _ _ = a0
    have hn : a0.tmps.size = 119 := by rw [← ha]; kernel_rfl
    have h42 : (fr a0 []).eval (.tmp 42) = .slice (some ad) na ca := by rw [← ha]; kernel_rfl
    refine fl_know hn rfl h42 ?_
    clear h42
    have h44 : (fr a0 [(42, true, .slice (some ad) na ca)]).eval (.tmp 44) = .int .i64 (i : Int) := by rw [← ha]; kernel_rfl
    refine fl_know hn rfl h44 ?_
    clear h44
    refine g_ix hn ?_
    refine g_ld hn ?_
    refine al_row hn (alA wr) ?_
    intro g w5 hg hY hB5
    refine g_str hY ?_ (h1 := qa_oneC x) (hi := by kernel_rfl)
    intro w6 ho6 hY6
    refine fl_end ?_
    clear hn
    subst ha
    dsimp only [fr, cnd, Act.put, cond_true]
    simp only [List.setIfInBounds_toArray, List.set_cons_zero, List.set_cons_succ]
    have hW6 : Below wr.heap.size wr w6 := hB5.trans (ho6.below (by omega))
    have hI6 := hI.on hW6
    have hgz : z < g := by have := hI.now.lt; omega
    clear ix ld hY hB5 ho6 hW6 hI
    have cG := refWrGood_any x.w.dev x.w.seq x.w.K x.w.ka x.w.na x.w.kb x.w.nb x.w.ky x.w.sa x.w.sb w6 hxf.1 hxf.2.1 hxf.2.2.1
    have f1 := afd1 w6 g
    have lw := awl hY6
    go_upto_region 10 with fail
    refine wp_region_lit ?_
    refine fl_start ?_
    generalize ha : Act.mk _ _ = a0
    have hn : a0.tmps.size = 119 := by rw [← ha]; kernel_rfl
    have h11 : (fr a0 []).eval (.tmp 11) = .pointer (some ⟨g, 0, none⟩) := by rw [← ha]; kernel_rfl
    refine fl_know hn rfl h11 ?_
    clear h11
    refine g_fd hn ?_
    refine g_ld hn ?_
    refine g_c1x en_spinney_spinneyref03_Good hn (R := fun v w2 => v = .bool x.w.good ∧ Below w6.heap.size w6 w2) (cG.mono fun _ _ ⟨he, hb2⟩ => ⟨_, he, rfl, hb2⟩) ?_
    rintro v w7 ⟨rfl, hB7⟩
    refine g_nt hn ?_
    refine fl_end ?_
    clear hn
    subst ha
    dsimp only [fr, cnd, Act.put, cond_true]
    simp only [List.setIfInBounds_toArray, List.set_cons_zero, List.set_cons_succ]
    have hI7 := hI6.on hB7
    have hY7 := hY6.keep hB7
    clear cG f1 lw hI6 hY6 hB7 hxf
    cases hgd : x.w.good with
    | false =>
      clear hgd hY7
      go_wp2_with fail
      refine ⟨?_, ?_⟩
      · first
        | exact ⟨i + 1, T, N, A, n, c, B, m, d, by omega, by go_num, by first | rfl | trivial, by omega, hI7⟩
        | repeat apply Exists.intro
          refine ⟨?_, rfl⟩
          exact ⟨i + 1, T, N, A, n, c, B, m, d, by omega, by go_num, by first | rfl | trivial, by omega, hI7⟩
      · simp [intOf]; omega
    | true =>
    have hfx : Fit x.w := good_len hgd
    have f0 := afd0 w7 g
    have l0 : (Instr.loadAt 3 (.pointer (some ⟨g, 0, none⟩))).run Try.prog w7 = .ok (.int .i64 x.kd) w7 := load_int (hY7.cell 0)
    have e2 := eq_two 53 w7 x.kd
    go_upto_region 11 with fail
    refine wp_region_lit ?_
    refine fl_start ?_
    generalize ha : Act.mk _ _ = a0
    have hn : a0.tmps.size = 119 := by rw [← ha]; kernel_rfl
    have h11 : (fr a0 []).eval (.tmp 11) = .pointer (some ⟨g, 0, none⟩) := by rw [← ha]; kernel_rfl
    refine fl_know hn rfl h11 ?_
    clear h11
    refine g_fd hn ?_
    refine g_ld hn ?_
    refine g_bc hn ?_
    refine fl_end ?_
    clear hn
    subst ha
    dsimp only [fr, cnd, Act.put, cond_true]
    simp only [List.setIfInBounds_toArray, List.set_cons_zero, List.set_cons_succ]
    clear f0 l0 e2
    have hnl := hI7.qu.len
    have hml := hI7.tl
    have hrm := hI7.room
    have main : ∀ (T2 : List Wr) (N2 : List Int) (A2 : Option Addr) (n2 c2 : Nat) (B2 : Option Addr) (m2 d2 : Nat) (W2 : World), m2 ≤ i + 1 → QtI w W2 q z k T2 N2 A2 n2 c2 B2 m2 d2 → True := fun _ _ _ _ _ _ _ _ _ _ _ => trivial
    clear main
    cases hk2 : (x.kd == 2) with
    | true =>
      clear hk2
      have qu := quo_2 56 w7 m (by omega)
      go_upto_region 12 with fail
      refine wp_region_lit ?_
      refine fl_start ?_
      generalize ha : Act.mk _ _ = a0
      have hn : a0.tmps.size = 119 := by rw [← ha]; kernel_rfl
      have h9 : (fr a0 []).eval (.tmp 9) = .slice B m d := by rw [← ha]; kernel_rfl
      refine fl_know hn rfl h9 ?_
      clear h9
      refine g_mv hn ?_
      refine g_ln hn ?_
      refine g_bc hn ?_
      refine g_as hn ?_
      refine fl_end ?_
      clear hn
      subst ha
      dsimp only [fr, cnd, Act.put, cond_true]
      simp only [List.setIfInBounds_toArray, List.set_cons_zero, List.set_cons_succ]
      clear qu hY7 hgd hfx
      have hcap := hI7.own.cap
      obtain ⟨hM1, hM2, hM3⟩ := hI7.ch.grow hI7.len hI7.pos hI7.le (m / 2)
      have sl : ∀ W, (∃ M : List Int, M.length = 12 ∧ Blk W z (liA M) 29) → _ := fun W _ => run_whi W B m d (m / 2) (by omega) hcap.1
      go_upto_region 13 with fail
      refine fh_start (S := (fun W => ∃ M : List Int, M.length = 12 ∧ Blk W z (liA M) 29)) (by kernel_rfl) (⟨N, hI7.len, hI7.now⟩) (fun hS => ?_)
      generalize ha : Act.mk _ _ = a0
      have hn : a0.tmps.size = 119 := by rw [← ha]; kernel_rfl
      have h8 : (fr a0 []).eval (.tmp 8) = .pointer (some ⟨z, 0, none⟩) := by rw [← ha]; kernel_rfl
      refine fh_know hn rfl h8 ?_
      clear h8
      have h9 : (fr a0 [(8, true, .pointer (some ⟨z, 0, none⟩))]).eval (.tmp 9) = .slice B m d := by rw [← ha]; kernel_rfl
      refine fh_know hn rfl h9 ?_
      clear h9
      have h12 : (fr a0 [(9, true, .slice B m d), (8, true, .pointer (some ⟨z, 0, none⟩))]).eval (.tmp 12) = .int .i64 ((m / 2 : Nat) : Int) := by rw [← ha]; kernel_rfl
      refine fh_know hn rfl h12 ?_
      clear h12
      refine h_mv 1 hn hS ?_
      refine h_mv 2 hn hS ?_
      refine h_op 3 hn hS (fun W h hk => x_shiC (lk_at hk (i := 59) rfl (fun _ => rfl) rfl) (lk_at hk (i := 60) rfl (fun _ => rfl) rfl) (sl W h)) ?_
      refine h_one 0 hn hS (fun hk => x_ld (lk_at hk (i := 8) rfl (fun _ => rfl) rfl) (ld_liL (W := w7.drew) hI7.now hI7.len)) ?_
      have cO := refOf_any N B (m / 2) d (T.take (m / 2)) w7.drew hI7.len (by rw [List.length_take]; omega) (hI7.own.rdw.hi (m / 2)) (Nat.le_refl _) (by omega) (fun y hy => by
        obtain ⟨dd, h1, h2, _⟩ := hI7.ch.fin (List.mem_of_mem_take hy)
        unfold nodeB
        rw [h2, decide_eq_true (by omega), decide_eq_true (by omega)]
        rfl)
      refine h_c2 4 en_spinney_spinneyref13_Of hn (R := fun v w2 => v = .agg (liA (ofL N (T.take (m / 2)))) ∧ Below w7.heap.size w7 w2) (cO.mono fun _ _ ⟨he, hb2⟩ => ⟨_, he, rfl, bel_un hb2⟩) ?_
      rintro v w8 ⟨rfl, hB8⟩
      have hI8 := hI7.on hB8
      refine ⟨⟨N, hI8.len, hI8.now⟩, ?_⟩
      have hZ9 := hI8.now.row (liA (ofL N (T.take (m / 2))))
      have ho9 := only_row w8 z (liA (ofL N (T.take (m / 2))))
      refine h_st 5 (st_li hI8.now hI8.len hM1) ⟨_, hM1, hZ9⟩ ?_
      refine fh_end (by kernel_rfl) ?_
      clear hn
      subst ha
      dsimp only [fr, cnd, Act.put, cond_true]
      simp only [List.setIfInBounds_toArray, List.set_cons_zero, List.set_cons_succ]
      generalize ofL N (T.take (m / 2)) = M at *
      generalize w8.setRow z (liA M) = w9 at hZ9 ho9 ⊢
      have hQ9 : QuW w9 q (k : Int) A n c (leftL N T) := ⟨hI8.qu.blk.only ho9 (by omega), hI8.qu.own.same fun a ha => ho9.block _ (own_ne hI8.qu.own hI8.now lt_ne a ha), hI8.qu.fit⟩
      have hO9 : OwnX tWr 10 (z + 1) w9 B m d (T.map Wr.cells) := hI8.own.same fun a ha => ho9.block _ (own_ne hI8.own hI8.now lt_ne a ha)
      have hK9 : Below w.heap.size w w9 := hI8.keep.trans (ho9.below (by omega))
      have hsm : Sml M := ⟨hM1, fun j => by have := hI8.pos j; have := hM2 j; have := hM3 j; have := (hI8.ch.sml j).2; omega⟩
      have lz : (Instr.loadAt 29 (.pointer (some ⟨z, 0, none⟩))).run Try.prog w9 = .ok (.agg (liA M)) w9 := ld_liL hZ9 hM1
      have cS := qSettle_any q (k : Int) A n c (leftL N T) M w9 hQ9 hsm (by omega)
      clear cO sl hB8 ho9 hI7
      go_upto_region 14 with fail
      refine wp_region_lit ?_
      refine fl_start ?_
      generalize ha : Act.mk _ _ = a0
      have hn : a0.tmps.size = 119 := by rw [← ha]; kernel_rfl
      have h6 : (fr a0 []).eval (.tmp 6) = .pointer (some ⟨q, 0, none⟩) := by rw [← ha]; kernel_rfl
      refine fl_know hn rfl h6 ?_
      clear h6
      have h8 : (fr a0 [(6, true, .pointer (some ⟨q, 0, none⟩))]).eval (.tmp 8) = .pointer (some ⟨z, 0, none⟩) := by rw [← ha]; kernel_rfl
      refine fl_know hn rfl h8 ?_
      clear h8
      refine g_mv hn ?_
      refine g_ld hn ?_
      refine g_c2x en_spinney_queue_Queue_Settle hn (R := fun v w' => ∃ A' n' c', QuW w' q (k : Int) A' n' c' (leftL M (leftL N T)) ∧ QuK q A w9 w' ∧ ∀ a, A' = some a → w9.heap.size ≤ a.block) (cS.mono fun _ _ ⟨he, hb2⟩ => ⟨_, he, hb2⟩) ?_
      rintro v w10 ⟨A', n', c', hQ10, hK10, hA10⟩
      refine fl_end ?_
      clear hn
      subst ha
      dsimp only [fr, cnd, Act.put, cond_true]
      simp only [List.setIfInBounds_toArray, List.set_cons_zero, List.set_cons_succ]
      have hI9 : QtI w w9 q z k T N A n c B m d → True := fun _ => trivial
      clear hI9
      have hI10 : QtI w w10 q z k T M A' n' c' B m d := by
        have e := hI8.ch.settle (M := N) hM2
        have hQ2 : QuW w10 q (k : Int) A' n' c' (leftL M T) := by rw [← e]; exact hQ10
        refine ⟨hI8.ch, hM1, hM3, fun j => (hsm.2 j).1, ?_, hQ2, ?_, ?_, ?_, ?_⟩
        · have a1 := hQ10.len
          have a3 := leftL_len M (leftL N T)
          omega
        · refine hO9.same fun b hb => ?_
          have hlt := (hO9.blk hb)
          exact hK10.block _ hlt.2 (by omega) fun a ha => hI8.ap a b ha hb
        · intro a b ha hb
          have := hA10 a ha
          have := (hO9.blk hb).2
          omega
        · exact (hK10.block z hZ9.lt (by omega) (own_ne hQ9.own hZ9 lt_ne)).trans hZ9
        · exact hK9.trans (hK10.below (B := w.heap.size) hq (fun x hx => hQ9.above x hx) hK9.size)
      clear cS lz hQ10 hK10 hA10 hQ9 hO9 hK9 hZ9 hI8 hM2 hM3 hnl hcap
      have hnl := hI10.qu.len
      have hrm := hI10.room
      have cl := qList_any q (k : Int) A' n' c' (leftL M T) w10 hI10.qu (by omega)
      go_upto_region 15 with fail
      refine wp_region_lit ?_
      refine fl_start ?_
      generalize ha : Act.mk _ _ = a0
      have hn : a0.tmps.size = 119 := by rw [← ha]; kernel_rfl
      have h6 : (fr a0 []).eval (.tmp 6) = .pointer (some ⟨q, 0, none⟩) := by rw [← ha]; kernel_rfl
      refine fl_know hn rfl h6 ?_
      clear h6
      refine g_mv hn ?_
      refine g_c1x en_spinney_queue_Queue_List hn (R := fun v w' => ∃ A2 n2 c2, v = .slice A2 n2 c2 ∧ OwnX tWr 10 w10.heap.size w' A2 n2 c2 ((leftL M T).map Wr.cells) ∧ Below w10.heap.size w10 w') (cl.mono fun e _ h => by
        obtain ⟨A2, n2, c2, rfl, h2, h3⟩ := h
        exact ⟨_, rfl, A2, n2, c2, rfl, h2, h3⟩) ?_
      rintro v w11 ⟨A2, n2, c2, rfl, hO2, hB11⟩
      refine g_ln hn ?_
      refine g_mc hn ?_
      refine fl_end ?_
      clear hn
      subst ha
      dsimp only [fr, cnd, Act.put, cond_true]
      simp only [List.setIfInBounds_toArray, List.set_cons_zero, List.set_cons_succ]
      have hI11 := hI10.on hB11
      have hn2l : (leftL M T).length = n2 := by have := hO2.len; rwa [List.length_map] at this
      clear cl hI10 hB11
      go_wp2_with fail
      go_loopw [14, 69] (fun _ u69 wl => ∃ (j : Nat), j ≤ n2 ∧ u69 = .int .i64 j ∧ QtI w wl q z k T M A' n' c' B m d ∧ Kp w11 wl) (fun _ u69 _ => n2 - (intOf u69).toNat)
      case atStart => exact ⟨0, Nat.zero_le _, rfl, hI11, Kp.refl _⟩
      case round =>
        clear hI11
        obtain ⟨j, hj, rfl, hI, hKw⟩ := hrel
        by_cases hjl : j < n2
        · have j2 : (j : Int) < (n2 : Int) := by omega
          obtain ⟨y, hy⟩ : ∃ y, (leftL M T)[j]? = some y := ⟨_, List.getElem?_eq_getElem (by omega)⟩
          obtain ⟨ad2, rfl, hadb2, hc2⟩ := (hO2.keep hKw.below).rdw j y hy
          obtain ⟨dd, hdd, edd, hlow⟩ := left_low hI.ch (List.mem_of_getElem? hy)
          clear hy
          have ix := wix wr ad2 n2 c2 j hjl
          have ld := wld hc2
          clear hc2
          go_upto_region 17 with fail
          refine wp_region_lit ?_
          refine fl_start ?_
          generalize ha : Act.mk _ _ = a0
          have hn : a0.tmps.size = 119 := by rw [← ha]; kernel_rfl
          have h67 : (fr a0 []).eval (.tmp 67) = .slice (some ad2) n2 c2 := by rw [← ha]; kernel_rfl
          refine fl_know hn rfl h67 ?_
          clear h67
          have h69 : (fr a0 [(67, true, .slice (some ad2) n2 c2)]).eval (.tmp 69) = .int .i64 (j : Int) := by rw [← ha]; kernel_rfl
          refine fl_know hn rfl h69 ?_
          clear h69
          refine g_ix hn ?_
          refine g_ld hn ?_
          refine al_row hn (alW wr) ?_
          intro g3 w12 hg3 hY3 hB12
          refine g_str hY3 ?_ (h1 := wr_oneC y)
          intro w13 ho13 hY13
          refine fl_end ?_
          clear hn
          subst ha
          dsimp only [fr, cnd, Act.put, cond_true]
          simp only [List.setIfInBounds_toArray, List.set_cons_zero, List.set_cons_succ]
          have hW13 : Below wr.heap.size wr w13 := hB12.trans (ho13.below (by omega))
          have hI13 := hI.on hW13
          have hK13 := Kp.trans hKw hW13
          clear ix ld hY3 hB12 ho13 hW13 hI hKw
          have f0 : ∀ W, Kp w13 W → _ := fun W _ => wfd0 W ⟨g3, 0, none⟩
          have f1 : ∀ W, Kp w13 W → (Instr.fieldAt 32 (.pointer (some ⟨g3, 0, none⟩)) 1).run Try.prog W = .ok (.pointer (some ⟨g3, 1, none⟩)) W := fun W _ => by have := ifd1 W ⟨g3, 0, none⟩; rwa [Nat.zero_add] at this
          have f2 : ∀ W, Kp w13 W → _ := fun W _ => ifd0 W ⟨g3, 0, none⟩
          have m0 : ∀ W, Kp w13 W → (Instr.loadAt 3 (.pointer (some ⟨g3, 0, none⟩))).run Try.prog W = .ok (.int .i64 (dd : Int)) W := fun W h => load_int (((h.blk hY13).cell 0).trans (by rw [← edd]; rfl))
          have m1 : ∀ W, Kp w13 W → (Instr.loadAt 3 (.pointer (some ⟨g3, 1, none⟩))).run Try.prog W = .ok (.int .i64 y.seq) W := fun W h => load_int ((h.blk hY13).cell 1)
          have x0 : ∀ W, Kp w13 W → _ := fun W _ => ix_liL W z dd hdd
          have n0 : ∀ W, Kp w13 W → (Instr.loadAt 3 (.pointer (some ⟨z, dd, none⟩))).run Try.prog W = .ok (.int .i64 (gI M dd)) W := fun W h => load_int (li_cell (h.blk hI13.now) (by rw [hI13.len]; exact hdd))
          go_upto_region 18 with fail
          refine fc_start (S := Kp w13) (by kernel_rfl) (Kp.drew _) ?_
          generalize ha : Act.mk _ _ = a0
          have hn : a0.tmps.size = 119 := by rw [← ha]; kernel_rfl
          have h8 : (fr a0 []).eval (.tmp 8) = .pointer (some ⟨z, 0, none⟩) := by rw [← ha]; kernel_rfl
          refine fc_know hn rfl h8 ?_
          clear h8
          have h14 : (fr a0 [(8, true, .pointer (some ⟨z, 0, none⟩))]).eval (.tmp 14) = .pointer (some ⟨g3, 0, none⟩) := by rw [← ha]; kernel_rfl
          refine fc_know hn rfl h14 ?_
          clear h14
          refine c_fd 0 hn ?_
          refine c_fd 1 hn ?_
          refine c_ld 2 hn ?_
          refine c_fd 3 hn ?_
          refine c_fd 4 hn ?_
          refine c_ld 5 hn ?_
          refine c_ix 6 hn ?_
          refine c_ld 7 hn ?_
          refine c_leq2 8 hn ?_
          refine fc_end (fun w14 hS => ?_)
          clear hn
          subst ha
          dsimp only [fr, cnd, Act.put, cond_true]
          simp only [List.setIfInBounds_toArray, List.set_cons_zero, List.set_cons_succ]
          have hI14 := hI13.on hS.below
          have hK14 := Kp.trans hK13 hS.below
          rw [decide_eq_false (show ¬ y.seq ≤ gI M dd by omega)]
          clear f0 f1 f2 m0 m1 x0 n0 hI13 hK13 hS hY13
          go_wp2_with fail
          refine ⟨?_, ?_⟩
          · first
            | exact ⟨j + 1, by omega, by go_num, hI14, hK14⟩
            | repeat apply Exists.intro
              refine ⟨?_, rfl⟩
              exact ⟨j + 1, by omega, by go_num, hI14, hK14⟩
          · simp [intOf]; omega
        · have j2 : ¬ (j : Int) < (n2 : Int) := by omega
          have hnl2 := hI.qu.len
          have hrm2 := hI.room
          have hml2 := hI.tl
          have cl := qList_any q (k : Int) A' n' c' (leftL M T) wr hI.qu (by omega)
          go_upto_region 23 with fail
          refine wp_region_lit ?_
          refine fl_start ?_
          generalize ha : Act.mk _ _ = a0
          have hn : a0.tmps.size = 119 := by rw [← ha]; kernel_rfl
          have h6 : (fr a0 []).eval (.tmp 6) = .pointer (some ⟨q, 0, none⟩) := by rw [← ha]; kernel_rfl
          refine fl_know hn rfl h6 ?_
          clear h6
          refine g_mv hn ?_
          refine g_c1x en_spinney_queue_Queue_List hn (R := fun v w' => ∃ A2 n2 c2, v = .slice A2 n2 c2 ∧ OwnX tWr 10 wr.heap.size w' A2 n2 c2 ((leftL M T).map Wr.cells) ∧ Below wr.heap.size wr w') (cl.mono fun e _ h => by
            obtain ⟨A2, n2, c2, rfl, h2, h3⟩ := h
            exact ⟨_, rfl, A2, n2, c2, rfl, h2, h3⟩) ?_
          rintro v u1 ⟨A5, n5, c5, rfl, hO5, hB5⟩
          refine g_as hn ?_
          refine fl_end ?_
          clear hn
          subst ha
          dsimp only [fr, cnd, Act.put, cond_true]
          simp only [List.setIfInBounds_toArray, List.set_cons_zero, List.set_cons_succ]
          have hI5 := hI.on hB5
          have hn5 : (leftL M T).length = n5 := by have := hO5.len; rwa [List.length_map] at this
          have hsm5 := hI5.sml
          have hL5 := hI5.ch.left (M := M)
          have hL6 := hI5.ch.left (M := zL)
          have e6 : leftL zL T = T := by
            unfold leftL
            rw [List.filter_eq_self]
            intro y hy
            obtain ⟨dd, h1, h2, _⟩ := hI5.ch.fin hy
            rw [notOld_is h1 h2, zL_gI]
            obtain ⟨_, _, _, h5, _⟩ := good_id (hI5.ch.good hy)
            exact decide_eq_true (by omega)
          rw [e6] at hL6
          clear cl hB5
          go_upto_region 24 with fail
          refine wp_region_lit ?_
          refine fl_start ?_
          generalize ha : Act.mk _ _ = a0
          have hn : a0.tmps.size = 119 := by rw [← ha]; kernel_rfl
          have h5 : (fr a0 []).eval (.tmp 5) = .int .i64 (k : Int) := by rw [← ha]; kernel_rfl
          refine fl_know hn rfl h5 ?_
          clear h5
          have h8 : (fr a0 [(5, true, .int .i64 (k : Int))]).eval (.tmp 8) = .pointer (some ⟨z, 0, none⟩) := by rw [← ha]; kernel_rfl
          refine fl_know hn rfl h8 ?_
          clear h8
          have h9 : (fr a0 [(8, true, .pointer (some ⟨z, 0, none⟩)), (5, true, .int .i64 (k : Int))]).eval (.tmp 9) = .slice B m d := by rw [← ha]; kernel_rfl
          refine fl_know hn rfl h9 ?_
          clear h9
          have h15 : (fr a0 [(9, true, .slice B m d), (8, true, .pointer (some ⟨z, 0, none⟩)), (5, true, .int .i64 (k : Int))]).eval (.tmp 15) = .slice A5 n5 c5 := by rw [← ha]; kernel_rfl
          refine fl_know hn rfl h15 ?_
          clear h15
          refine g_mv hn ?_
          refine g_c1x en_spinney_stamp_Tight hn (R := fun v w' => v = .bool true ∧ Below u1.heap.size u1 w') ((tight_any A5 n5 c5 (leftL M T) u1 hn5 hO5.rdw (Nat.le_refl _) (by omega)).mono fun _ _ ⟨he, hb2⟩ => ⟨_, he, by rw [hL5.1], hb2⟩) ?_
          rintro v u2 ⟨rfl, hb2⟩
          have hI6 := hI5.on hb2
          have hO6 := hO5.keep hb2
          have gt := gtr_no 101 102 u2 (n5 : Int) (k : Int) (by omega)
          refine g_nt hn ?_
          refine g_mv hn ?_
          refine g_mv hn ?_
          refine g_ln hn ?_
          refine g_mv hn ?_
          refine g_bn hn ?_
          refine g_or hn ?_
          refine g_mv hn ?_
          refine g_mv hn ?_
          refine g_c1x en_spinney_stamp_Tight hn (R := fun v w' => v = .bool true ∧ Below u2.heap.size u2 w') ((tight_any B m d T u2 hI6.tl hI6.own.rdw (Nat.le_refl _) (by omega)).mono fun _ _ ⟨he, hb2⟩ => ⟨_, he, by rw [hL6.1], hb2⟩) ?_
          rintro v u3 ⟨rfl, hb3⟩
          have hI7 := hI6.on hb3
          have hO7 := hO6.keep hb3
          have lz : (Instr.loadAt 29 (.pointer (some ⟨z, 0, none⟩))).run Try.prog u3 = .ok (.agg (liA M)) u3 := ld_liL hI7.now hI7.len
          refine g_nt hn ?_
          refine g_or hn ?_
          refine g_mv hn ?_
          refine g_mv hn ?_
          refine g_ld hn ?_
          refine g_mv hn ?_
          refine g_c2x en_spinney_spinneyref13_Left hn (R := fun v w' => ∃ A2 n2 c2, v = .slice A2 n2 c2 ∧ OwnX tWr 10 u3.heap.size w' A2 n2 c2 ((leftL M T).map Wr.cells) ∧ Below u3.heap.size u3 w') ((refLeft_any M B m d T u3 hsm5 hI7.tl hI7.own.rdw (Nat.le_refl _) (by omega) (fun y hy => good_nums (hI7.ch.good hy))).mono fun e _ h => by
            obtain ⟨A2, n2, c2, rfl, h2, h3⟩ := h
            exact ⟨_, rfl, A2, n2, c2, rfl, h2, h3⟩) ?_
          rintro v u4 ⟨A8, n8, c8, rfl, hO8, hb4⟩
          have hI8 := hI7.on hb4
          have hO9 := hO7.keep hb4
          have hn8 : (leftL M T).length = n8 := by have := hO8.len; rwa [List.length_map] at this
          refine g_c2x en_spinney_spinneyref03_Same hn (R := fun v w' => v = .bool true ∧ Below u4.heap.size u4 w') ((refWrSame_any A5 A8 n5 c5 n8 c8 (leftL M T) (leftL M T) u4 hn5 hO9.rdw (Nat.le_refl _) (by omega) hn8 hO8.rdw (Nat.le_refl _)).mono fun _ _ h => ⟨_, h.1, by rw [sameW_yes rfl], h.2.below _⟩) ?_
          rintro v u5 ⟨rfl, hb5⟩
          have hI9 := hI8.on hb5
          refine g_nt hn ?_
          refine g_or hn ?_
          refine fl_end ?_
          clear hn
          subst ha
          dsimp only [fr, cnd, Act.put, cond_true]
          simp only [List.setIfInBounds_toArray, List.set_cons_zero, List.set_cons_succ]
          clear hO5 hO6 hO7 hO8 hO9 hI5 hI6 hI7 hI8 gt lz hsm5 hL5 hL6 e6
          go_wp2_with fail
          refine ⟨?_, ?_⟩
          · first
            | exact ⟨i + 1, T, M, A', n', c', B, m, d, by omega, by go_num, by first | rfl | trivial, by omega, hI9⟩
            | repeat apply Exists.intro
              refine ⟨?_, rfl⟩
              exact ⟨i + 1, T, M, A', n', c', B, m, d, by omega, by go_num, by first | rfl | trivial, by omega, hI9⟩
          · simp [intOf]; omega
    | false =>
      clear hk2
      have f1 := afd1 w7 g
      have lw := awl hY7
      have lz : (Instr.loadAt 29 (.pointer (some ⟨z, 0, none⟩))).run Try.prog w7 = .ok (.agg (liA N)) w7 := ld_liL hI7.now hI7.len
      have hla := hI7.lasts
      have cT := qTake_any q (k : Int) A n c (leftL N T) N x.w w7 hI7.qu hI7.len (by rw [hla]; exact ⟨hI7.ch.tg.len, fun j => by have := hI7.ch.sml j; omega⟩) hfx (by omega)
      generalize hcd : takeI (k : Int) N (leftL N T) x.w = code at cT
      go_upto_region 21 with fail
      refine wp_region_lit ?_
      refine fl_start ?_
      generalize ha : Act.mk _ _ = a0
      have hn : a0.tmps.size = 119 := by rw [← ha]; kernel_rfl
      have h6 : (fr a0 []).eval (.tmp 6) = .pointer (some ⟨q, 0, none⟩) := by rw [← ha]; kernel_rfl
      refine fl_know hn rfl h6 ?_
      clear h6
      have h8 : (fr a0 [(6, true, .pointer (some ⟨q, 0, none⟩))]).eval (.tmp 8) = .pointer (some ⟨z, 0, none⟩) := by rw [← ha]; kernel_rfl
      refine fl_know hn rfl h8 ?_
      clear h8
      have h11 : (fr a0 [(8, true, .pointer (some ⟨z, 0, none⟩)), (6, true, .pointer (some ⟨q, 0, none⟩))]).eval (.tmp 11) = .pointer (some ⟨g, 0, none⟩) := by rw [← ha]; kernel_rfl
      refine fl_know hn rfl h11 ?_
      clear h11
      refine g_mv hn ?_
      refine g_ld hn ?_
      refine g_fd hn ?_
      refine g_ld hn ?_
      refine fl_callx (R := fun v w' => v = .int .i64 code ∧ QTook q (k : Int) A n c (leftL N T) x.w code w7 w') hn rfl (by rfl) (by rfl) (fun hk => call3_is en_spinney_queue_Queue_Take _ _ _ _ _ _ _ _ _ _ _ _ _ (lk_at hk (i := 83) rfl (fun _ => rfl) rfl) (lk_at hk (i := 84) rfl (fun _ => rfl) rfl) (lk_at hk (i := 86) rfl (fun _ => rfl) rfl) rfl) (cT.mono fun _ _ ⟨he, hb2⟩ => ⟨_, he, rfl, hb2⟩) ?_
      rintro v w8 ⟨rfl, hT8⟩
      have ee := er_eql 87 code 0 w8
      refine g_bc hn ?_
      refine fl_end ?_
      clear hn
      subst ha
      dsimp only [fr, cnd, Act.put, cond_true]
      simp only [List.setIfInBounds_toArray, List.set_cons_zero, List.set_cons_succ]
      clear f1 lw lz cT ee
      by_cases hc0 : code = 0
      · subst hc0
        obtain ⟨hz1, hz2⟩ := takeI_zero hcd
        rw [hla] at hz1
        obtain ⟨dd, edd, hdd, hsq, h40⟩ := ask_chn hI7.ch hgd hz1
        obtain ⟨A', n', c', hQ8, hK8, hA8⟩ := hT8.ok rfl
        obtain ⟨hO8, hap8, hZ8, hB8⟩ := hI7.took (e := 0) hq hqz hQ8 hK8 hA8
        have hch8 := Chn.snoc hI7.ch edd hdd hsq h40 hgd
        have hle8 := hI7.ch.le edd hdd hsq hI7.len hI7.le
        have hnew8 := hI7.ch.new hI7.le edd hdd hsq
        have hpos8 := hI7.pos
        have hlen8 := hI7.len
        have hY8 : Blk w8 g x.cells 41 := (hK8.block g hY7.lt (by omega) (own_ne hI7.qu.own hY7 ac_ne)).trans hY7
        have hn8 := hQ8.len
        rw [List.length_append] at hn8
        simp at hn8
        clear hT8 hz1 hcd hsq h40 hgd hK8 hA8 hY7 hI7
        rw [← hnew8] at hQ8
        have f1 := afd1 w8 g
        have lw := awl hY8
        simp only [beq_self_eq_true]
        go_upto_region 22 with fail
        refine wp_region_lit ?_
        refine fl_start ?_
        generalize ha : Act.mk _ _ = a0
        have hn : a0.tmps.size = 119 := by rw [← ha]; kernel_rfl
        have h9 : (fr a0 []).eval (.tmp 9) = .slice B m d := by rw [← ha]; kernel_rfl
        refine fl_know hn rfl h9 ?_
        clear h9
        have h11 : (fr a0 [(9, true, .slice B m d)]).eval (.tmp 11) = .pointer (some ⟨g, 0, none⟩) := by rw [← ha]; kernel_rfl
        refine fl_know hn rfl h11 ?_
        clear h11
        refine g_mv hn ?_
        refine g_fd hn ?_
        refine g_ld hn ?_
        refine g_bs1 hn ?_
        intro g9 w9 hg9 hY9 hB9
        have hO9 := hO8.keep hB9
        have hQ9 := hQ8.keep hB9
        refine g_apX (m := 1) (n := m) (base := z + 1) hn Try.underlying30 wr_el rfl (by decide) (by decide) hO9 (wr_szd [x.w]) rfl (wr_ones [x.w]) (blk_rdC hY9) (by omega) (by have := hZ8.lt; have := hB9.size; omega) (.inr (by omega)) ?_
        rintro v w10 ⟨B', d', rfl, hO10, hB10, _, hne10, hbl10⟩
        refine g_as hn ?_
        refine fl_end ?_
        clear hn
        subst ha
        dsimp only [fr, cnd, Act.put, cond_true]
        simp only [List.setIfInBounds_toArray, List.set_cons_zero, List.set_cons_succ]
        have hQ10 : QuW w10 q (k : Int) A' n' c' (leftL N (T ++ [x.w])) := by
          refine ⟨(hne10 q (by have := hQ9.blk.lt; omega) (hO9.notat (by omega))).trans hQ9.blk, hQ9.own.same fun a ha => ?_, hQ9.fit⟩
          exact hne10 _ (hQ9.own.blk ha).2 fun b hb => (hap8 a b ha hb).symm
        have hZ10 : Blk w10 z (liA N) 29 := (hne10 z (by have := hZ8.lt; have := hB9.size; omega) (hO9.notat (by omega))).trans (hZ8.keep hB9)
        have hB10' : Below w.heap.size w w10 := (hB8.trans (hB9.mono hB8.size)).trans (hB10.mono (by omega))
        have hap10 : Apart A' B' := by
          intro a b ha hb
          have hlt := (hQ9.own.blk ha).2
          have hlt8 := (hQ8.own.blk ha).2
          rw [hb] at hbl10
          rcases hbl10 with h1 | h1
          · cases hBB : B with
            | none => rw [hBB] at h1; cases h1
            | some b2 =>
              rw [hBB] at h1
              injection h1 with h1
              have h1 : b.block = b2.block := h1
              rw [h1]
              exact hap8 a b2 ha hBB
          · injection h1 with h1
            have h1 : b.block = w9.heap.size := h1
            omega
        have hI10 : QtI w w10 q z k (T ++ [x.w]) N A' n' c' B' (m + 1) d' := ⟨hch8, hlen8, hle8, hpos8, by omega, hQ10, by rw [List.map_append]; exact hO10, hap10, hZ10, hB10'⟩
        clear f1 lw hO8 hap8 hZ8 hB8 hch8 hle8 hnew8 hpos8 hlen8 hY8 hQ8 hY9 hB9 hO9 hQ9 hO10 hB10 hne10 hbl10 hQ10 hZ10 hB10' hap10
        have hnl2 := hI10.qu.len
        have hrm2 := hI10.room
        have hml2 := hI10.tl
        have cl := qList_any q (k : Int) A' n' c' (leftL N (T ++ [x.w])) w10 hI10.qu (by omega)
        go_upto_region 23 with fail
        refine wp_region_lit ?_
        refine fl_start ?_
        generalize ha : Act.mk _ _ = a0
        have hn : a0.tmps.size = 119 := by rw [← ha]; kernel_rfl
        have h6 : (fr a0 []).eval (.tmp 6) = .pointer (some ⟨q, 0, none⟩) := by rw [← ha]; kernel_rfl
        refine fl_know hn rfl h6 ?_
        clear h6
        refine g_mv hn ?_
        refine g_c1x en_spinney_queue_Queue_List hn (R := fun v w' => ∃ A2 n2 c2, v = .slice A2 n2 c2 ∧ OwnX tWr 10 w10.heap.size w' A2 n2 c2 ((leftL N (T ++ [x.w])).map Wr.cells) ∧ Below w10.heap.size w10 w') (cl.mono fun e _ h => by
          obtain ⟨A2, n2, c2, rfl, h2, h3⟩ := h
          exact ⟨_, rfl, A2, n2, c2, rfl, h2, h3⟩) ?_
        rintro v u1 ⟨A5, n5, c5, rfl, hO5, hB5⟩
        refine g_as hn ?_
        refine fl_end ?_
        clear hn
        subst ha
        dsimp only [fr, cnd, Act.put, cond_true]
        simp only [List.setIfInBounds_toArray, List.set_cons_zero, List.set_cons_succ]
        have hI5 := hI10.on hB5
        have hn5 : (leftL N (T ++ [x.w])).length = n5 := by have := hO5.len; rwa [List.length_map] at this
        have hsm5 := hI5.sml
        have hL5 := hI5.ch.left (M := N)
        have hL6 := hI5.ch.left (M := zL)
        have e6 : leftL zL (T ++ [x.w]) = (T ++ [x.w]) := by
          unfold leftL
          rw [List.filter_eq_self]
          intro y hy
          obtain ⟨dd, h1, h2, _⟩ := hI5.ch.fin hy
          rw [notOld_is h1 h2, zL_gI]
          obtain ⟨_, _, _, h5, _⟩ := good_id (hI5.ch.good hy)
          exact decide_eq_true (by omega)
        rw [e6] at hL6
        clear cl hB5
        go_upto_region 24 with fail
        refine wp_region_lit ?_
        refine fl_start ?_
        generalize ha : Act.mk _ _ = a0
        have hn : a0.tmps.size = 119 := by rw [← ha]; kernel_rfl
        have h5 : (fr a0 []).eval (.tmp 5) = .int .i64 (k : Int) := by rw [← ha]; kernel_rfl
        refine fl_know hn rfl h5 ?_
        clear h5
        have h8 : (fr a0 [(5, true, .int .i64 (k : Int))]).eval (.tmp 8) = .pointer (some ⟨z, 0, none⟩) := by rw [← ha]; kernel_rfl
        refine fl_know hn rfl h8 ?_
        clear h8
        have h9 : (fr a0 [(8, true, .pointer (some ⟨z, 0, none⟩)), (5, true, .int .i64 (k : Int))]).eval (.tmp 9) = .slice B' (m + 1) d' := by rw [← ha]; kernel_rfl
        refine fl_know hn rfl h9 ?_
        clear h9
        have h15 : (fr a0 [(9, true, .slice B' (m + 1) d'), (8, true, .pointer (some ⟨z, 0, none⟩)), (5, true, .int .i64 (k : Int))]).eval (.tmp 15) = .slice A5 n5 c5 := by rw [← ha]; kernel_rfl
        refine fl_know hn rfl h15 ?_
        clear h15
        refine g_mv hn ?_
        refine g_c1x en_spinney_stamp_Tight hn (R := fun v w' => v = .bool true ∧ Below u1.heap.size u1 w') ((tight_any A5 n5 c5 (leftL N (T ++ [x.w])) u1 hn5 hO5.rdw (Nat.le_refl _) (by omega)).mono fun _ _ ⟨he, hb2⟩ => ⟨_, he, by rw [hL5.1], hb2⟩) ?_
        rintro v u2 ⟨rfl, hb2⟩
        have hI6 := hI5.on hb2
        have hO6 := hO5.keep hb2
        have gt := gtr_no 101 102 u2 (n5 : Int) (k : Int) (by omega)
        refine g_nt hn ?_
        refine g_mv hn ?_
        refine g_mv hn ?_
        refine g_ln hn ?_
        refine g_mv hn ?_
        refine g_bn hn ?_
        refine g_or hn ?_
        refine g_mv hn ?_
        refine g_mv hn ?_
        refine g_c1x en_spinney_stamp_Tight hn (R := fun v w' => v = .bool true ∧ Below u2.heap.size u2 w') ((tight_any B' (m + 1) d' (T ++ [x.w]) u2 hI6.tl hI6.own.rdw (Nat.le_refl _) (by omega)).mono fun _ _ ⟨he, hb2⟩ => ⟨_, he, by rw [hL6.1], hb2⟩) ?_
        rintro v u3 ⟨rfl, hb3⟩
        have hI7 := hI6.on hb3
        have hO7 := hO6.keep hb3
        have lz : (Instr.loadAt 29 (.pointer (some ⟨z, 0, none⟩))).run Try.prog u3 = .ok (.agg (liA N)) u3 := ld_liL hI7.now hI7.len
        refine g_nt hn ?_
        refine g_or hn ?_
        refine g_mv hn ?_
        refine g_mv hn ?_
        refine g_ld hn ?_
        refine g_mv hn ?_
        refine g_c2x en_spinney_spinneyref13_Left hn (R := fun v w' => ∃ A2 n2 c2, v = .slice A2 n2 c2 ∧ OwnX tWr 10 u3.heap.size w' A2 n2 c2 ((leftL N (T ++ [x.w])).map Wr.cells) ∧ Below u3.heap.size u3 w') ((refLeft_any N B' (m + 1) d' (T ++ [x.w]) u3 hsm5 hI7.tl hI7.own.rdw (Nat.le_refl _) (by omega) (fun y hy => good_nums (hI7.ch.good hy))).mono fun e _ h => by
          obtain ⟨A2, n2, c2, rfl, h2, h3⟩ := h
          exact ⟨_, rfl, A2, n2, c2, rfl, h2, h3⟩) ?_
        rintro v u4 ⟨A8, n8, c8, rfl, hO8, hb4⟩
        have hI8 := hI7.on hb4
        have hO9 := hO7.keep hb4
        have hn8 : (leftL N (T ++ [x.w])).length = n8 := by have := hO8.len; rwa [List.length_map] at this
        refine g_c2x en_spinney_spinneyref03_Same hn (R := fun v w' => v = .bool true ∧ Below u4.heap.size u4 w') ((refWrSame_any A5 A8 n5 c5 n8 c8 (leftL N (T ++ [x.w])) (leftL N (T ++ [x.w])) u4 hn5 hO9.rdw (Nat.le_refl _) (by omega) hn8 hO8.rdw (Nat.le_refl _)).mono fun _ _ h => ⟨_, h.1, by rw [sameW_yes rfl], h.2.below _⟩) ?_
        rintro v u5 ⟨rfl, hb5⟩
        have hI9 := hI8.on hb5
        refine g_nt hn ?_
        refine g_or hn ?_
        refine fl_end ?_
        clear hn
        subst ha
        dsimp only [fr, cnd, Act.put, cond_true]
        simp only [List.setIfInBounds_toArray, List.set_cons_zero, List.set_cons_succ]
        clear hO5 hO6 hO7 hO8 hO9 hI5 hI6 hI7 hI8 gt lz hsm5 hL5 hL6 e6
        go_wp2_with fail
        refine ⟨?_, ?_⟩
        · first
          | exact ⟨i + 1, (T ++ [x.w]), N, A', n', c', B', (m + 1), d', by omega, by go_num, by first | rfl | trivial, by omega, hI9⟩
          | repeat apply Exists.intro
            refine ⟨?_, rfl⟩
            exact ⟨i + 1, (T ++ [x.w]), N, A', n', c', B', (m + 1), d', by omega, by go_num, by first | rfl | trivial, by omega, hI9⟩
        · simp [intOf]; omega
      · obtain ⟨hQ8, hb8⟩ := hT8.fail hc0
        have hI8 := hI7.on hb8
        rw [show (code == 0) = false by simpa using hc0]
        clear hT8 hQ8 hb8 hI7 hcd hla hY7
        have hnl2 := hI8.qu.len
        have hrm2 := hI8.room
        have hml2 := hI8.tl
        have cl := qList_any q (k : Int) A n c (leftL N T) w8 hI8.qu (by omega)
        go_upto_region 23 with fail
        refine wp_region_lit ?_
        refine fl_start ?_
        generalize ha : Act.mk _ _ = a0
        have hn : a0.tmps.size = 119 := by rw [← ha]; kernel_rfl
        have h6 : (fr a0 []).eval (.tmp 6) = .pointer (some ⟨q, 0, none⟩) := by rw [← ha]; kernel_rfl
        refine fl_know hn rfl h6 ?_
        clear h6
        refine g_mv hn ?_
        refine g_c1x en_spinney_queue_Queue_List hn (R := fun v w' => ∃ A2 n2 c2, v = .slice A2 n2 c2 ∧ OwnX tWr 10 w8.heap.size w' A2 n2 c2 ((leftL N T).map Wr.cells) ∧ Below w8.heap.size w8 w') (cl.mono fun e _ h => by
          obtain ⟨A2, n2, c2, rfl, h2, h3⟩ := h
          exact ⟨_, rfl, A2, n2, c2, rfl, h2, h3⟩) ?_
        rintro v u1 ⟨A5, n5, c5, rfl, hO5, hB5⟩
        refine g_as hn ?_
        refine fl_end ?_
        clear hn
        subst ha
        dsimp only [fr, cnd, Act.put, cond_true]
        simp only [List.setIfInBounds_toArray, List.set_cons_zero, List.set_cons_succ]
        have hI5 := hI8.on hB5
        have hn5 : (leftL N T).length = n5 := by have := hO5.len; rwa [List.length_map] at this
        have hsm5 := hI5.sml
        have hL5 := hI5.ch.left (M := N)
        have hL6 := hI5.ch.left (M := zL)
        have e6 : leftL zL T = T := by
          unfold leftL
          rw [List.filter_eq_self]
          intro y hy
          obtain ⟨dd, h1, h2, _⟩ := hI5.ch.fin hy
          rw [notOld_is h1 h2, zL_gI]
          obtain ⟨_, _, _, h5, _⟩ := good_id (hI5.ch.good hy)
          exact decide_eq_true (by omega)
        rw [e6] at hL6
        clear cl hB5
        go_upto_region 24 with fail
        refine wp_region_lit ?_
        refine fl_start ?_
        generalize ha : Act.mk _ _ = a0
        have hn : a0.tmps.size = 119 := by rw [← ha]; kernel_rfl
        have h5 : (fr a0 []).eval (.tmp 5) = .int .i64 (k : Int) := by rw [← ha]; kernel_rfl
        refine fl_know hn rfl h5 ?_
        clear h5
        have h8 : (fr a0 [(5, true, .int .i64 (k : Int))]).eval (.tmp 8) = .pointer (some ⟨z, 0, none⟩) := by rw [← ha]; kernel_rfl
        refine fl_know hn rfl h8 ?_
        clear h8
        have h9 : (fr a0 [(8, true, .pointer (some ⟨z, 0, none⟩)), (5, true, .int .i64 (k : Int))]).eval (.tmp 9) = .slice B m d := by rw [← ha]; kernel_rfl
        refine fl_know hn rfl h9 ?_
        clear h9
        have h15 : (fr a0 [(9, true, .slice B m d), (8, true, .pointer (some ⟨z, 0, none⟩)), (5, true, .int .i64 (k : Int))]).eval (.tmp 15) = .slice A5 n5 c5 := by rw [← ha]; kernel_rfl
        refine fl_know hn rfl h15 ?_
        clear h15
        refine g_mv hn ?_
        refine g_c1x en_spinney_stamp_Tight hn (R := fun v w' => v = .bool true ∧ Below u1.heap.size u1 w') ((tight_any A5 n5 c5 (leftL N T) u1 hn5 hO5.rdw (Nat.le_refl _) (by omega)).mono fun _ _ ⟨he, hb2⟩ => ⟨_, he, by rw [hL5.1], hb2⟩) ?_
        rintro v u2 ⟨rfl, hb2⟩
        have hI6 := hI5.on hb2
        have hO6 := hO5.keep hb2
        have gt := gtr_no 101 102 u2 (n5 : Int) (k : Int) (by omega)
        refine g_nt hn ?_
        refine g_mv hn ?_
        refine g_mv hn ?_
        refine g_ln hn ?_
        refine g_mv hn ?_
        refine g_bn hn ?_
        refine g_or hn ?_
        refine g_mv hn ?_
        refine g_mv hn ?_
        refine g_c1x en_spinney_stamp_Tight hn (R := fun v w' => v = .bool true ∧ Below u2.heap.size u2 w') ((tight_any B m d T u2 hI6.tl hI6.own.rdw (Nat.le_refl _) (by omega)).mono fun _ _ ⟨he, hb2⟩ => ⟨_, he, by rw [hL6.1], hb2⟩) ?_
        rintro v u3 ⟨rfl, hb3⟩
        have hI7 := hI6.on hb3
        have hO7 := hO6.keep hb3
        have lz : (Instr.loadAt 29 (.pointer (some ⟨z, 0, none⟩))).run Try.prog u3 = .ok (.agg (liA N)) u3 := ld_liL hI7.now hI7.len
        refine g_nt hn ?_
        refine g_or hn ?_
        refine g_mv hn ?_
        refine g_mv hn ?_
        refine g_ld hn ?_
        refine g_mv hn ?_
        refine g_c2x en_spinney_spinneyref13_Left hn (R := fun v w' => ∃ A2 n2 c2, v = .slice A2 n2 c2 ∧ OwnX tWr 10 u3.heap.size w' A2 n2 c2 ((leftL N T).map Wr.cells) ∧ Below u3.heap.size u3 w') ((refLeft_any N B m d T u3 hsm5 hI7.tl hI7.own.rdw (Nat.le_refl _) (by omega) (fun y hy => good_nums (hI7.ch.good hy))).mono fun e _ h => by
          obtain ⟨A2, n2, c2, rfl, h2, h3⟩ := h
          exact ⟨_, rfl, A2, n2, c2, rfl, h2, h3⟩) ?_
        rintro v u4 ⟨A8, n8, c8, rfl, hO8, hb4⟩
        have hI8 := hI7.on hb4
        have hO9 := hO7.keep hb4
        have hn8 : (leftL N T).length = n8 := by have := hO8.len; rwa [List.length_map] at this
        refine g_c2x en_spinney_spinneyref03_Same hn (R := fun v w' => v = .bool true ∧ Below u4.heap.size u4 w') ((refWrSame_any A5 A8 n5 c5 n8 c8 (leftL N T) (leftL N T) u4 hn5 hO9.rdw (Nat.le_refl _) (by omega) hn8 hO8.rdw (Nat.le_refl _)).mono fun _ _ h => ⟨_, h.1, by rw [sameW_yes rfl], h.2.below _⟩) ?_
        rintro v u5 ⟨rfl, hb5⟩
        have hI9 := hI8.on hb5
        refine g_nt hn ?_
        refine g_or hn ?_
        refine fl_end ?_
        clear hn
        subst ha
        dsimp only [fr, cnd, Act.put, cond_true]
        simp only [List.setIfInBounds_toArray, List.set_cons_zero, List.set_cons_succ]
        clear hO5 hO6 hO7 hO8 hO9 hI5 hI6 hI7 hI8 gt lz hsm5 hL5 hL6 e6
        go_wp2_with fail
        refine ⟨?_, ?_⟩
        · first
          | exact ⟨i + 1, T, N, A, n, c, B, m, d, by omega, by go_num, by first | rfl | trivial, by omega, hI9⟩
          | repeat apply Exists.intro
            refine ⟨?_, rfl⟩
            exact ⟨i + 1, T, N, A, n, c, B, m, d, by omega, by go_num, by first | rfl | trivial, by omega, hI9⟩
        · simp [intOf]; omega
end Go.Proofs.Ytkfhkfddhijkcaa
