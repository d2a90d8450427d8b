/-
  WHAT IS PROVED: the law SlateKeeps returns true. Conditions: those typed in each theorem.
-/
import Derived.Test.YtgbopikhdpmmcaaDoorMK
namespace Go.Proofs.YtgbopikhdpmmcaaDoor
open Go.RowKit

/-- A block beside a row of notes that was appended to. -/
theorem Blk.aside {t : TypeId} {base b n c : Nat} {W W' : World} {cs : Array Value} {A : Option Addr} {l : List (Array Value)} (h : Blk W b cs t) (hO : OwnX tNo 3 base W A n c l) (ht : t ≠ tNo) (hk : ∀ x, x < W.heap.size → (∀ a, A = some a → a.block ≠ x) → W'.heap[x]? = W.heap[x]?) : Blk W' b cs t := by
  refine (hk b (Array.getElem?_eq_some_iff.1 h).1 fun a ha e => ?_).trans h
  obtain ⟨_, cs2, h2⟩ := hO.row ha
  rw [e] at h2
  have h3 := h2.symm.trans h
  injection h3 with h3
  injection h3 with _ h3
  exact ht h3.symm
/-- Within a flush: the slate, and the three rows of notes. -/
structure KF (B B2 s : Nat) (W : World) (M : Sl) (A6 : Option Addr) (n6 c6 : Nat) (F : List Pw) (A7 : Option Addr) (n7 c7 : Nat) (Q : List Pw) (A12 : Option Addr) (n12 c12 : Nat) (R : List Pw) : Prop where
  sl : SlR B W s M
  o6 : OwnX tNo 3 B2 W A6 n6 c6 (F.map noC)
  o7 : OwnX tNo 3 B2 W A7 n7 c7 (Q.map noC)
  o12 : OwnX tNo 3 B2 W A12 n12 c12 (R.map noC)
  d67 : Dj A6 A7
  d612 : Dj A6 A12
  d127 : Dj A12 A7
theorem KF.below {B B2 s n6 c6 n7 c7 n12 c12 : Nat} {W W' : World} {M : Sl} {A6 A7 A12 : Option Addr} {F Q R : List Pw} (h : KF B B2 s W M A6 n6 c6 F A7 n7 c7 Q A12 n12 c12 R) (hb : Below W.heap.size W W') : KF B B2 s W' M A6 n6 c6 F A7 n7 c7 Q A12 n12 c12 R := ⟨h.sl.below hb, h.o6.keep hb, h.o7.keep hb, h.o12.keep hb, h.d67, h.d612, h.d127⟩
theorem KF.ap6 {B B2 s n6 c6 n7 c7 n12 c12 c6' : Nat} {W W' : World} {M : Sl} {A6 A7 A12 A6' : Option Addr} {F Q R : List Pw} {y : Pw} (h : KF B B2 s W M A6 n6 c6 F A7 n7 c7 Q A12 n12 c12 R) (hBB : B ≤ B2) (hO : OwnX tNo 3 B2 W' A6' (n6 + 1) c6' ((F ++ [y]).map noC)) (hb : Below B2 W W') (hk : ∀ x, x < W.heap.size → (∀ a, A6 = some a → a.block ≠ x) → W'.heap[x]? = W.heap[x]?) (hA : A6'.map (·.block) = A6.map (·.block) ∨ A6'.map (·.block) = some W.heap.size) : KF B B2 s W' M A6' (n6 + 1) c6' (F ++ [y]) A7 n7 c7 Q A12 n12 c12 R :=
  ⟨h.sl.aside h.o6 (hb.mono hBB) hk, hO, h.o7.aside hk h.d67, h.o12.aside hk h.d612, h.d67.ap hA (fun a ha => (h.o7.blk ha).2), h.d612.ap hA (fun a ha => (h.o12.blk ha).2), h.d127⟩
theorem KF.ap12 {B B2 s n6 c6 n7 c7 n12 c12 c12' : Nat} {W W' : World} {M : Sl} {A6 A7 A12 A12' : Option Addr} {F Q R : List Pw} {y : Pw} (h : KF B B2 s W M A6 n6 c6 F A7 n7 c7 Q A12 n12 c12 R) (hBB : B ≤ B2) (hO : OwnX tNo 3 B2 W' A12' (n12 + 1) c12' ((R ++ [y]).map noC)) (hb : Below B2 W W') (hk : ∀ x, x < W.heap.size → (∀ a, A12 = some a → a.block ≠ x) → W'.heap[x]? = W.heap[x]?) (hA : A12'.map (·.block) = A12.map (·.block) ∨ A12'.map (·.block) = some W.heap.size) : KF B B2 s W' M A6 n6 c6 F A7 n7 c7 Q A12' (n12 + 1) c12' (R ++ [y]) :=
  ⟨h.sl.aside h.o12 (hb.mono hBB) hk, h.o6.aside hk h.d612.symm, h.o7.aside hk h.d127, hO, h.d67, (h.d612.symm.ap hA (fun a ha => (h.o6.blk ha).2)).symm, h.d127.ap hA (fun a ha => (h.o7.blk ha).2)⟩
theorem filt_len (p : Pw → Bool) (Q : List Pw) : (Q.filter p).length + (notP p Q).length = Q.length := by
  unfold notP
  induction Q with
  | nil => rfl
  | cons x r ih =>
    cases h : p x with
    | true => simp [h]; omega
    | false => simp [h]; omega
theorem notP_next {p : Pw → Bool} {Q : List Pw} {k : Nat} {x : Pw} (hx : Q[k]? = some x) : notP p (Q.take (k + 1)) = bif p x then notP p (Q.take k) else notP p (Q.take k) ++ [x] := by
  unfold notP
  rw [List.take_add_one, hx, List.filter_append]
  cases h : p x with
  | true => simp [h]
  | false => simp [h]

set_option maxRecDepth 100000 in
set_option maxHeartbeats 4000000 in
theorem lawKeeps_all (S : Addr) (A : Option Addr) (n c : Nat) (acts : List Ac) (A2 : Option Addr) (m2 c2 : Nat) (keep : List Bool) (w : World) (hL : LaidE S w) (hn0 : acts.length = n) (hr : RdA w.heap.size w A acts) (hkn : keep.length = m2) (hrk : RdK w.heap.size w A2 keep) (hm : n ≤ maxLen) :
    Calls Tryd.prog 10 #[.slice A n c, .slice A2 m2 c2] w fun e w' => e = .returned (.bool true) ∧ Below w.heap.size w w' := by
  have HN := Lib.hid hn0
  have hgE : 1 < w.heap.size := World.block_lt_of_cell? w _ hL
  have HR := Lib.hid (fun W hb => hr.keep (C := w.heap.size) (W' := W) hb (Nat.le_refl _))
  have HK := Lib.hid (fun W hb => hrk.keep (C := w.heap.size) (W' := W) hb (Nat.le_refl _))
  have HL : Hid (∀ W, Below w.heap.size w W → LaidE S W) := fun W hb => hL.keep hb
  clear hr hrk hn0
  go_enter Tryd.func10, Tryd.ntmps10
  go_upto_region 1 with fail
  refine wp_region_lit ?_
  refine fl_start ?_
  generalize ha : Act.mk _ _ = a0
  have hn : a0.tmps.size = 207 := by rw [← ha]; kernel_rfl
  refine g_cvx en_spinney_slate_New hn (vs := #[]) (fun _ => by simp) (new_any w) ?_
  rintro v w1 ⟨s, rfl, hR1, hb1⟩
  refine g_as hn ?_
  refine fl_end ?_
  clear hn
  subst ha
  dsimp only [fr, cnd, Act.put, cond_true]
  simp only [List.setIfInBounds_toArray, List.set_cons_zero, List.set_cons_succ]
  have cA := awake9_any S w1 (HL.out w1 hb1)
  go_upto_region 2 with fail
  refine wp_region_lit ?_
  refine fl_start ?_
  generalize ha : Act.mk _ _ = a0
  have hn : a0.tmps.size = 207 := by rw [← ha]; kernel_rfl
  have h0 : (fr a0 []).eval (.tmp 0) = .slice A n c := by rw [← ha]; kernel_rfl
  refine fl_know hn rfl h0 ?_
  clear h0
  have h5 : (fr a0 [(0, true, .slice A n c)]).eval (.tmp 5) = .pointer (some ⟨s, 0, none⟩) := by rw [← ha]; kernel_rfl
  refine fl_know hn rfl h5 ?_
  clear h5
  refine g_cvx en_spinney_spinneylaw09_awake hn (R := fun v w2 => v = .bool true ∧ Below w1.heap.size w1 w2) (vs := #[]) (fun _ => by simp) (cA.mono fun _ _ ⟨he, h⟩ => ⟨_, he, rfl, h⟩) ?_
  rintro v w2 ⟨rfl, hb2⟩
  refine g_nt hn ?_
  refine g_mv hn ?_
  refine g_mv hn ?_
  refine g_o1 hn (i := 30) (vi := .pointer (some ⟨s, 0, none⟩)) (v := .bool false) (fun ρ h hc => x_np h (hc _)) ?_
  refine g_or hn ?_
  refine g_mv hn ?_
  refine g_mv hn ?_
  refine g_ln hn ?_
  refine g_gtr hn ?_
  refine g_or hn ?_
  refine fl_end ?_
  clear hn
  subst ha
  dsimp only [fr, cnd, Act.put, cond_true]
  simp only [List.setIfInBounds_toArray, List.set_cons_zero, List.set_cons_succ]
  have hB2 : Below w.heap.size w w2 := hb1.trans (hb2.mono hb1.size)
  have hR2 := hR1.below hb2
  clear cA hb1 hb2 hR1
  cases hg : ((!true || false) || decide ((60 : Int) < (n : Int))) with
  | true =>
    have cA := awake9_any S w2 (HL.out w2 hB2)
    go_upto_region 3 with fail
    refine wp_region_lit ?_
    refine fl_start ?_
    generalize ha : Act.mk _ _ = a0
    have hn : a0.tmps.size = 207 := by rw [← ha]; kernel_rfl
    refine g_cvx en_spinney_spinneylaw09_awake hn (R := fun v w3 => v = .bool true ∧ Below w2.heap.size w2 w3) (vs := #[]) (fun _ => by simp) (cA.mono fun _ _ ⟨he, h⟩ => ⟨_, he, rfl, h⟩) ?_
    rintro v w3 ⟨rfl, hb3⟩
    refine g_as hn ?_
    refine fl_end ?_
    clear hn
    subst ha
    dsimp only [fr, cnd, Act.put, cond_true]
    simp only [List.setIfInBounds_toArray, List.set_cons_zero, List.set_cons_succ]
    have hB3 := hB2.trans (hb3.mono hB2.size)
    clear hg cA hR2 hb3 HN HR HK HL
    go_wp2_with fail
    go_ret
    exact ⟨rfl, hB3⟩
  | false =>
  have hn60 : n ≤ 60 := by
    simp only [Bool.or_eq_false_iff, decide_eq_false_iff_not] at hg
    omega
  clear hg
  generalize hBB : w.heap.size = B at *
  have hO0 := OwnX.nil tNo 3 w2.heap.size w2
  generalize hB22 : w2.heap.size = B2 at hO0
  have hBB2 : B ≤ B2 := by have := hB2.size; omega
  have hK0 : Hid (KR B B2 s w2 sl0 none 0 0 [] none 0 0 []) := ⟨hR2, hO0, hO0, Dj.nil _, ki_0⟩
  clear hR2 hO0
  go_wp2_with fail
  go_loopw [6, 7, 41] (fun u6 u7 i wr => ∃ (k : Nat) (M : Sl) (A6 A7 : Option Addr) (n6 c6 n7 c7 : Nat) (F Q : List Pw), k ≤ n ∧ i = .int .i64 k ∧ u6 = .slice A6 n6 c6 ∧ u7 = .slice A7 n7 c7 ∧ Hid (KR B B2 s wr M A6 n6 c6 F A7 n7 c7 Q) ∧ Below B w wr ∧ B2 ≤ wr.heap.size ∧ F.length + Q.length ≤ k) (fun _ _ i _ => n - (intOf i).toNat)
  case atStart => exact ⟨0, sl0, none, none, 0, 0, 0, 0, [], [], Nat.zero_le _, rfl, rfl, rfl, hK0, hB2, by omega, Nat.le_refl _⟩
  case round =>
    clear hK0 hB2
    obtain ⟨k, M, A6, A7, n6, c6, n7, c7, F, Q, hk, rfl, rfl, rfl, hK, hB, hz, hlen⟩ := hrel
    have hn6 : F.length = n6 := by have := hK.out.o6.len; rwa [List.length_map] at this
    have hn7 : Q.length = n7 := by have := hK.out.o7.len; rwa [List.length_map] at this
    by_cases hlt : k < n
    · obtain ⟨x, hx⟩ : ∃ x, acts[k]? = some x := ⟨_, List.getElem?_eq_getElem (show k < acts.length by have := HN.out; omega)⟩
      obtain ⟨ad, rfl, hadb, hc, hxr⟩ := (HR.out wr hB).at_ hx
      clear hx
      have i2 : (k : Int) < (n : Int) := by omega
      have ix := aix wr ad n c k hlt
      have ld := ald hc
      go_upto_region 7 with fail
      refine wp_region_lit ?_
      refine fl_start ?_
      generalize ha : Act.mk _ _ = a0
      have hn : a0.tmps.size = 207 := by rw [← ha]; kernel_rfl
      have h39 : (fr a0 []).eval (.tmp 39) = .slice (some ad) n c := by rw [← ha]; kernel_rfl
      refine fl_know hn rfl h39 ?_
      clear h39
      have h41 : (fr a0 [(39, true, .slice (some ad) n c)]).eval (.tmp 41) = .int .i64 (k : Int) := by rw [← ha]; kernel_rfl
      refine fl_know hn rfl h41 ?_
      clear h41
      refine g_ix hn ?_
      refine g_ld hn ?_
      refine al_row hn (alA6 wr) ?_
      intro g wv hgv hYv hBv
      refine g_str hYv ?_ (h1 := ac_oneC x)
      intro w3 ho hY
      refine fl_end ?_
      clear hn
      subst ha
      dsimp only [fr, cnd, Act.put, cond_true]
      simp only [List.setIfInBounds_toArray, List.set_cons_zero, List.set_cons_succ]
      have hW3 : Below wr.heap.size wr w3 := hBv.trans (ho.below (by omega))
      clear ix ld hc hYv hBv ho
      have hK3 := hK.out.below hW3
      have hB3 : Below B w w3 := hB.trans (hW3.mono (by have := hB.size; omega))
      have hz3 : B2 ≤ w3.heap.size := by have := hW3.size; omega
      replace hxr := hxr.keep hW3 (by have := hB.size; omega)
      clear hK hB hz hW3
      have f4 := afd4 w3 g
      have l4 : (Instr.loadAt 22 (.pointer (some ⟨g, 4, none⟩))).run Tryd.prog w3 = .ok (.slice x.A1 x.n1 x.c1) w3 := lsl (t := 22) (.inl rfl) (hY.cell 4)
      go_upto_region 8 with fail
      refine wp_region_lit ?_
      refine fl_start ?_
      generalize ha : Act.mk _ _ = a0
      have hn : a0.tmps.size = 207 := by rw [← ha]; kernel_rfl
      have h9 : (fr a0 []).eval (.tmp 9) = .pointer (some ⟨g, 0, none⟩) := by rw [← ha]; kernel_rfl
      refine fl_know hn rfl h9 ?_
      clear h9
      refine g_fd hn ?_
      refine g_ld hn ?_
      refine g_ln hn ?_
      refine g_gtr hn ?_
      refine g_as hn ?_
      refine fl_end ?_
      clear hn
      subst ha
      dsimp only [fr, cnd, Act.put, cond_true]
      simp only [List.setIfInBounds_toArray, List.set_cons_zero, List.set_cons_succ]
      clear f4 l4
      by_cases hbig : (64 : Int) < (x.n1 : Int)
      · have hK4 := Lib.hid hK3
        clear hK3 hxr hY
        go_wp2_with fail
        go_roundw
        case rel => exact ⟨k + 1, M, A6, A7, n6, c6, n7, c7, F, Q, by omega, by go_num, by first | rfl | trivial, by first | rfl | trivial, hK4, hB3, hz3, by omega⟩
        case measure => simp [intOf]; omega
      · have hbd : decide ((64 : Int) < (x.n1 : Int)) = false := decide_eq_false hbig
        rw [hbd]
        have hl64 : x.l.length ≤ 64 := by have := hxr.2.1; omega
        clear hbd hbig
        rcases (by omega : x.k = 1 ∨ x.k = 2 ∨ (x.k ≠ 1 ∧ x.k ≠ 2)) with hk1 | hk2 | ⟨hk1, hk2⟩
        · have hE3 := HL.out w3 hB3
          have hRb := hxr.1.more (C := w3.heap.size) (by have := hB3.size; omega)
          have hpl : M.pend.length ≤ 1000000 := by rw [hK3.ki.pend]; omega
          have cW := write_any S B s M x.f x.b x.A1 x.n1 x.c1 x.l w3 hK3.sl hE3 hgE hxr.2.1 hRb hpl (by have := hxr.2.2.2.2.2; unfold maxLen at this; have := hxr.2.1; omega)
          have hcode : wrCode M x.f x.b x.l = bif placeB x.f x.b then 0 else 1 := by
            cases hp : placeB x.f x.b with
            | true => exact (hK3.ki.write hl64 hp).1
            | false => exact (KI.noWrite hl64 hp).1
          rw [hcode] at cW
          clear hE3 hRb hpl hcode
          have f0 := afd0 w3 g
          have l0 : (Instr.loadAt 3 (.pointer (some ⟨g, 0, none⟩))).run Tryd.prog w3 = .ok (.int .i64 x.k) w3 := load_int (hY.cell 0)
          have f1 := afd1 w3 g
          have l1 : (Instr.loadAt 3 (.pointer (some ⟨g, 1, none⟩))).run Tryd.prog w3 = .ok (.int .i64 x.f) w3 := load_int (hY.cell 1)
          have f2 := afd2 w3 g
          have l2 : (Instr.loadAt 3 (.pointer (some ⟨g, 2, none⟩))).run Tryd.prog w3 = .ok (.int .i64 x.b) w3 := load_int (hY.cell 2)
          have f4 := afd4 w3 g
          have l4 : (Instr.loadAt 22 (.pointer (some ⟨g, 4, none⟩))).run Tryd.prog w3 = .ok (.slice x.A1 x.n1 x.c1) w3 := lsl (t := 22) (.inl rfl) (hY.cell 4)
          go_upto_region 9 with fail
          refine wp_region_lit ?_
          refine fl_start ?_
          generalize ha : Act.mk _ _ = a0
          have hn : a0.tmps.size = 207 := by rw [← ha]; kernel_rfl
          have h5 : (fr a0 []).eval (.tmp 5) = .pointer (some ⟨s, 0, none⟩) := by rw [← ha]; kernel_rfl
          refine fl_know hn rfl h5 ?_
          clear h5
          have h9 : (fr a0 [(5, true, .pointer (some ⟨s, 0, none⟩))]).eval (.tmp 9) = .pointer (some ⟨g, 0, none⟩) := by rw [← ha]; kernel_rfl
          refine fl_know hn rfl h9 ?_
          clear h9
          refine g_fd hn ?_
          refine g_ld hn ?_
          refine g_o1 hn (i := 52) (vi := .int .i64 x.k) (v := .bool true) (fun ρ h hc => x_ek h (hc _) (by simp [hk1])) ?_
          refine g_mv hn ?_
          refine g_mv hn ?_
          refine g_fd hn ?_
          refine g_ld hn ?_
          refine g_fd hn ?_
          refine g_ld hn ?_
          refine g_fd hn ?_
          refine g_ld hn ?_
          refine g_cvx en_spinney_slate_Slate_Write hn (R := fun v w4 => v = .int .i64 (bif placeB x.f x.b then 0 else 1) ∧ SlR B w4 s (wrM M x.f x.b x.l) ∧ StK B w3 w4) (vs := #[.pointer (some ⟨s, 0, none⟩), .int .i64 x.f, .int .i64 x.b, .slice x.A1 x.n1 x.c1]) (fun hk => by simp only [List.map_toArray, List.map_cons, List.map_nil, lk_at hk (i := 55) rfl (fun _ => rfl) rfl, lk_at hk (i := 57) rfl (fun _ => rfl) rfl, lk_at hk (i := 59) rfl (fun _ => rfl) rfl, lk_at hk (i := 61) rfl (fun _ => rfl) rfl]) (cW.mono fun _ _ ⟨he, h⟩ => ⟨_, he, rfl, h⟩) ?_
          rintro v w4 ⟨rfl, hR4, hS4⟩
          refine g_o1 hn (i := 62) (vi := .int .i64 (bif placeB x.f x.b then 0 else 1)) (v := .bool (placeB x.f x.b)) (fun ρ h hc => x_ee h (hc _) (by cases placeB x.f x.b <;> rfl)) ?_
          refine g_an hn ?_
          refine g_as hn ?_
          refine fl_end ?_
          clear hn
          subst ha
          dsimp only [fr, cnd, Act.put, cond_true]
          simp only [List.setIfInBounds_toArray, List.set_cons_zero, List.set_cons_succ]
          clear f0 l0 f1 l1 f2 l2 f4 l4 cW
          have hY4 := hY.stk hS4 (by decide) (by decide)
          have ho64 := hK3.o6.stk hS4 (by decide) (by decide)
          have ho74 := hK3.o7.stk hS4 (by decide) (by decide)
          have hB4 : Below B w w4 := hB3.trans hS4.bel
          have hdj := hK3.dj
          have hki := hK3.ki
          have hz4 : B2 ≤ w4.heap.size := by
            have := hS4.bel.size; omega
          clear hS4 hY hK3 hxr hB3 hz3
          cases hp : placeB x.f x.b with
          | false =>
            have hK4 : Hid (KR B B2 s w4 M A6 n6 c6 F A7 n7 c7 Q) := ⟨by rw [(KI.noWrite hl64 hp).2] at hR4; exact hR4, ho64, ho74, hdj, hki⟩
            have hY := hY4
            clear hR4 ho64 ho74 hdj hki hp hl64 hY4
            simp only [Bool.true_and]
            have f0 := afd0 w4 g
            have l0 : (Instr.loadAt 3 (.pointer (some ⟨g, 0, none⟩))).run Tryd.prog w4 = .ok (.int .i64 x.k) w4 := load_int (hY.cell 0)
            go_upto_region 12 with fail
            refine wp_region_lit ?_
            refine fl_start ?_
            generalize ha : Act.mk _ _ = a0
            have hn : a0.tmps.size = 207 := by rw [← ha]; kernel_rfl
            have h5 : (fr a0 []).eval (.tmp 5) = .pointer (some ⟨s, 0, none⟩) := by rw [← ha]; kernel_rfl
            refine fl_know hn rfl h5 ?_
            clear h5
            have h9 : (fr a0 [(5, true, .pointer (some ⟨s, 0, none⟩))]).eval (.tmp 9) = .pointer (some ⟨g, 0, none⟩) := by rw [← ha]; kernel_rfl
            refine fl_know hn rfl h9 ?_
            clear h9
            refine g_fd hn ?_
            refine g_ld hn ?_
            refine g_o1 hn (i := 86) (vi := .int .i64 x.k) (v := .bool false) (fun ρ h hc => x_ek h (hc _) (by simp [hk1])) ?_
            refine g_mv hn ?_
            refine g_offv .nilIface hn ?_
            refine g_offv .nilIface hn ?_
            refine g_offv .nilIface hn ?_
            refine g_offv .nilIface hn ?_
            refine g_offv (.bool false) hn ?_
            refine g_an hn ?_
            refine g_as hn ?_
            refine fl_end ?_
            clear hn
            subst ha
            dsimp only [fr, cnd, Act.put, cond_true]
            simp only [List.setIfInBounds_toArray, List.set_cons_zero, List.set_cons_succ]
            clear f0 l0
            clear hY
            go_wp2_with fail
            refine ⟨?_, ?_⟩
            · first
              | exact ⟨k + 1, M, A6, A7, n6, c6, n7, c7, F, Q, by omega, by go_num, by first | rfl | trivial, by first | rfl | trivial, hK4, hB4, hz4, by omega⟩
              | repeat apply Exists.intro
                refine ⟨?_, rfl⟩
                exact ⟨k + 1, M, A6, A7, n6, c6, n7, c7, F, Q, by omega, by go_num, by first | rfl | trivial, by first | rfl | trivial, hK4, hB4, hz4, by omega⟩
            · simp [intOf]; omega
          | true =>
            obtain ⟨_, e2, hki5, hbl⟩ := hki.write hl64 hp
            rw [e2] at hR4
            have cR := read_any B s _ x.f x.b w4 hR4
            have hY := hY4
            simp only [Bool.true_and]
            have f1 := afd1 w4 g
            have l1 : (Instr.loadAt 3 (.pointer (some ⟨g, 1, none⟩))).run Tryd.prog w4 = .ok (.int .i64 x.f) w4 := load_int (hY.cell 1)
            have f2 := afd2 w4 g
            have l2 : (Instr.loadAt 3 (.pointer (some ⟨g, 2, none⟩))).run Tryd.prog w4 = .ok (.int .i64 x.b) w4 := load_int (hY.cell 2)
            go_upto_region 10 with fail
            refine wp_region_lit ?_
            refine fl_start ?_
            generalize ha : Act.mk _ _ = a0
            have hn : a0.tmps.size = 207 := by rw [← ha]; kernel_rfl
            have h5 : (fr a0 []).eval (.tmp 5) = .pointer (some ⟨s, 0, none⟩) := by rw [← ha]; kernel_rfl
            refine fl_know hn rfl h5 ?_
            clear h5
            have h9 : (fr a0 [(5, true, .pointer (some ⟨s, 0, none⟩))]).eval (.tmp 9) = .pointer (some ⟨g, 0, none⟩) := by rw [← ha]; kernel_rfl
            refine fl_know hn rfl h9 ?_
            clear h9
            refine g_mv hn ?_
            refine g_fd hn ?_
            refine g_ld hn ?_
            refine g_fd hn ?_
            refine g_ld hn ?_
            refine g_cvx en_spinney_slate_Slate_Read hn (R := fun v w5 => ∃ g5, v = .tuple #[.slice (some ⟨g5, 0, none⟩) 64 64, .int .i64 0] ∧ Blk w5 g5 (bkA (padL x.l)) 85 ∧ Below w4.heap.size w4 w5) (vs := #[.pointer (some ⟨s, 0, none⟩), .int .i64 x.f, .int .i64 x.b]) (fun hk => by simp only [List.map_toArray, List.map_cons, List.map_nil, lk_at hk (i := 66) rfl (fun _ => rfl) rfl, lk_at hk (i := 68) rfl (fun _ => rfl) rfl, lk_at hk (i := 70) rfl (fun _ => rfl) rfl]) (cR.mono fun e w5 h => by
              unfold ReadR at h
              rw [hp, hbl] at h
              obtain ⟨⟨g5, rfl, h1, _⟩, h2⟩ := h
              exact ⟨_, rfl, g5, rfl, h1, h2⟩) ?_
            rintro v w5 ⟨g5, rfl, hX5, hb5⟩
            refine g_mv hn ?_
            refine g_ex hn ?_
            refine g_ex hn ?_
            refine g_as hn ?_
            refine g_as hn ?_
            refine fl_end ?_
            clear hn
            subst ha
            dsimp only [fr, cnd, Act.put, cond_true]
            simp only [List.setIfInBounds_toArray, List.set_cons_zero, List.set_cons_succ]
            clear f1 l1 f2 l2 cR
            have hY := hY4.keep hb5
            have hR5 := hR4.below hb5
            have ho65 := ho64.keep hb5
            have ho75 := ho74.keep hb5
            have hB5 : Below B w w5 := hB4.trans (hb5.mono (by have := hB4.size; omega))
            have hz5 : B2 ≤ w5.heap.size := by have := hb5.size; omega
            have hpad : (padL x.l).length = 64 := by unfold padL; rw [List.length_append, List.length_replicate]; omega
            have cv := conv_rd w5 (some ⟨g5, 0, none⟩) 64 64 (padL x.l) hpad (blk_rdb hX5)
            rw [show (⟨(padL x.l).toArray⟩ : ByteArray) = strL (padL x.l) from rfl] at cv
            have bN := bdN x.f x.b (padL x.l) w5
            clear hY4 hR4 ho64 ho74 hB4 hz4 hb5 hX5 hki hpad
            have f1 := afd1 w5 g
            have l1 : (Instr.loadAt 3 (.pointer (some ⟨g, 1, none⟩))).run Tryd.prog w5 = .ok (.int .i64 x.f) w5 := load_int (hY.cell 1)
            have f2 := afd2 w5 g
            have l2 : (Instr.loadAt 3 (.pointer (some ⟨g, 2, none⟩))).run Tryd.prog w5 = .ok (.int .i64 x.b) w5 := load_int (hY.cell 2)
            go_upto_region 11 with fail
            refine wp_region_lit ?_
            refine fl_start ?_
            generalize ha : Act.mk _ _ = a0
            have hn : a0.tmps.size = 207 := by rw [← ha]; kernel_rfl
            have h7 : (fr a0 []).eval (.tmp 7) = .slice A7 n7 c7 := by rw [← ha]; kernel_rfl
            refine fl_know hn rfl h7 ?_
            clear h7
            have h9 : (fr a0 [(7, true, .slice A7 n7 c7)]).eval (.tmp 9) = .pointer (some ⟨g, 0, none⟩) := by rw [← ha]; kernel_rfl
            refine fl_know hn rfl h9 ?_
            clear h9
            have h10 : (fr a0 [(9, true, .pointer (some ⟨g, 0, none⟩)), (7, true, .slice A7 n7 c7)]).eval (.tmp 10) = .slice (some ⟨g5, 0, none⟩) 64 64 := by rw [← ha]; kernel_rfl
            refine fl_know hn rfl h10 ?_
            clear h10
            refine g_mv hn ?_
            refine g_fd hn ?_
            refine g_ld hn ?_
            refine g_fd hn ?_
            refine g_ld hn ?_
            refine g_mv hn ?_
            refine g_cv hn ?_
            refine g_bd hn ?_ (hx := bN) (hp := fun hk _ => by simp only [List.map_toArray, List.map_cons, List.map_nil, lk_at hk (i := 76) rfl (fun _ => rfl) rfl, lk_at hk (i := 78) rfl (fun _ => rfl) rfl, lk_at hk (i := 80) rfl (fun _ => rfl) rfl])
            refine g_bs1N hn ?_
            intro g6 w6 hg6 hY6 hB6
            have ho66 := ho65.keep hB6
            have ho76 := ho75.keep hB6
            have hR6 := hR5.below hB6
            refine g_apN (base := B2) hn ho76 hY6 (by omega) (by have := hB6.size; omega) ?_
            rintro v7 w7 ⟨A7', c7', rfl, ho77, hB7, hk7, hA7⟩
            refine g_as hn ?_
            refine fl_end ?_
            clear hn
            subst ha
            dsimp only [fr, cnd, Act.put, cond_true]
            simp only [List.setIfInBounds_toArray, List.set_cons_zero, List.set_cons_succ]
            have hB6' : Below B w w6 := hB5.trans (hB6.mono (by have := hB5.size; omega))
            have hK7 : Hid (KR B B2 s w7 (M.wrote ⟨x.f, x.b, padL x.l⟩) A6 n6 c6 F A7' (n7 + 1) c7' (Q ++ [⟨x.f, x.b, padL x.l⟩])) := ⟨hR6.aside ho76 (hB7.mono hBB2) hk7, ho66.aside hk7 hdj.symm, ho77, (hdj.symm.ap hA7 (fun a ha => (ho66.blk ha).2)).symm, hki5⟩
            have hB7' : Below B w w7 := hB6'.trans (hB7.mono hBB2)
            have hz7 : B2 ≤ w7.heap.size := by have := hB7.size; have := hB6.size; omega
            clear f1 l1 f2 l2 cv bN hY hR5 ho65 ho75 hB5 hz5 hY6 hB6 ho66 ho76 hR6 ho77 hB7 hk7 hA7 hB6' hdj hki5 hp hl64 hbl
            go_wp2_with fail
            refine ⟨?_, ?_⟩
            · first
              | exact ⟨k + 1, M.wrote ⟨x.f, x.b, padL x.l⟩, A6, A7', n6, c6, n7 + 1, c7', F, Q ++ [⟨x.f, x.b, padL x.l⟩], by omega, by go_num, by first | rfl | trivial, by first | rfl | trivial, hK7, hB7', hz7, by simp; omega⟩
              | repeat apply Exists.intro
                refine ⟨?_, rfl⟩
                exact ⟨k + 1, M.wrote ⟨x.f, x.b, padL x.l⟩, A6, A7', n6, c6, n7 + 1, c7', F, Q ++ [⟨x.f, x.b, padL x.l⟩], by omega, by go_num, by first | rfl | trivial, by first | rfl | trivial, hK7, hB7', hz7, by simp; omega⟩
            · simp [intOf]; omega
        · have hE3 := HL.out w3 hB3
          have cF := flush_any S B s M x.f w3 hK3.sl hE3 hgE
          have hcode : rmCode M x.f = bif fileB x.f then 0 else 1 := by
            cases hp : fileB x.f with
            | true => exact (hK3.ki.flush hp).1
            | false => exact (KI.noFlush hp).1
          rw [hcode] at cF
          clear hE3 hcode
          have f0 := afd0 w3 g
          have l0 : (Instr.loadAt 3 (.pointer (some ⟨g, 0, none⟩))).run Tryd.prog w3 = .ok (.int .i64 x.k) w3 := load_int (hY.cell 0)
          go_upto_region 9 with fail
          refine wp_region_lit ?_
          refine fl_start ?_
          generalize ha : Act.mk _ _ = a0
          have hn : a0.tmps.size = 207 := by rw [← ha]; kernel_rfl
          have h5 : (fr a0 []).eval (.tmp 5) = .pointer (some ⟨s, 0, none⟩) := by rw [← ha]; kernel_rfl
          refine fl_know hn rfl h5 ?_
          clear h5
          have h9 : (fr a0 [(5, true, .pointer (some ⟨s, 0, none⟩))]).eval (.tmp 9) = .pointer (some ⟨g, 0, none⟩) := by rw [← ha]; kernel_rfl
          refine fl_know hn rfl h9 ?_
          clear h9
          refine g_fd hn ?_
          refine g_ld hn ?_
          refine g_o1 hn (i := 52) (vi := .int .i64 x.k) (v := .bool false) (fun ρ h hc => x_ek h (hc _) (by simp [hk2])) ?_
          refine g_mv hn ?_
          refine g_offv .nilIface hn ?_
          refine g_offv .nilIface hn ?_
          refine g_offv .nilIface hn ?_
          refine g_offv .nilIface hn ?_
          refine g_offv .nilIface hn ?_
          refine g_offv .nilIface hn ?_
          refine g_offv .nilIface hn ?_
          refine g_offv .nilIface hn ?_
          refine g_offv (.bool false) hn ?_
          refine g_an hn ?_
          refine g_as hn ?_
          refine fl_end ?_
          clear hn
          subst ha
          dsimp only [fr, cnd, Act.put, cond_true]
          simp only [List.setIfInBounds_toArray, List.set_cons_zero, List.set_cons_succ]
          clear f0 l0
          simp only [Bool.false_and]
          have f0 := afd0 w3 g
          have l0 : (Instr.loadAt 3 (.pointer (some ⟨g, 0, none⟩))).run Tryd.prog w3 = .ok (.int .i64 x.k) w3 := load_int (hY.cell 0)
          have f1 := afd1 w3 g
          have l1 : (Instr.loadAt 3 (.pointer (some ⟨g, 1, none⟩))).run Tryd.prog w3 = .ok (.int .i64 x.f) w3 := load_int (hY.cell 1)
          go_upto_region 12 with fail
          refine wp_region_lit ?_
          refine fl_start ?_
          generalize ha : Act.mk _ _ = a0
          have hn : a0.tmps.size = 207 := by rw [← ha]; kernel_rfl
          have h5 : (fr a0 []).eval (.tmp 5) = .pointer (some ⟨s, 0, none⟩) := by rw [← ha]; kernel_rfl
          refine fl_know hn rfl h5 ?_
          clear h5
          have h9 : (fr a0 [(5, true, .pointer (some ⟨s, 0, none⟩))]).eval (.tmp 9) = .pointer (some ⟨g, 0, none⟩) := by rw [← ha]; kernel_rfl
          refine fl_know hn rfl h9 ?_
          clear h9
          refine g_fd hn ?_
          refine g_ld hn ?_
          refine g_o1 hn (i := 86) (vi := .int .i64 x.k) (v := .bool true) (fun ρ h hc => x_ek h (hc _) (by simp [hk2])) ?_
          refine g_mv hn ?_
          refine g_mv hn ?_
          refine g_fd hn ?_
          refine g_ld hn ?_
          refine g_cvx en_spinney_slate_Slate_Flush hn (R := fun v w4 => v = .int .i64 (bif fileB x.f then 0 else 1) ∧ SlR B w4 s (flM M x.f) ∧ StK B w3 w4) (vs := #[.pointer (some ⟨s, 0, none⟩), .int .i64 x.f]) (fun hk => by simp only [List.map_toArray, List.map_cons, List.map_nil, lk_at hk (i := 89) rfl (fun _ => rfl) rfl, lk_at hk (i := 91) rfl (fun _ => rfl) rfl]) (cF.mono fun _ _ ⟨he, h⟩ => ⟨_, he, rfl, h⟩) ?_
          rintro v w4 ⟨rfl, hR4, hS4⟩
          refine g_o1 hn (i := 92) (vi := .int .i64 (bif fileB x.f then 0 else 1)) (v := .bool (fileB x.f)) (fun ρ h hc => x_ee h (hc _) (by cases fileB x.f <;> rfl)) ?_
          refine g_an hn ?_
          refine g_as hn ?_
          refine fl_end ?_
          clear hn
          subst ha
          dsimp only [fr, cnd, Act.put, cond_true]
          simp only [List.setIfInBounds_toArray, List.set_cons_zero, List.set_cons_succ]
          clear f0 l0 f1 l1 cF
          have hY4 := hY.stk hS4 (by decide) (by decide)
          have ho64 := hK3.o6.stk hS4 (by decide) (by decide)
          have ho74 := hK3.o7.stk hS4 (by decide) (by decide)
          have hB4 : Below B w w4 := hB3.trans hS4.bel
          have hdj := hK3.dj
          have hki := hK3.ki
          have hz4 : B2 ≤ w4.heap.size := by have := hS4.bel.size; omega
          clear hS4 hY hK3 hxr hB3 hz3 hl64
          simp only [Bool.true_and]
          cases hp : fileB x.f with
          | false =>
            have hK4 : Hid (KR B B2 s w4 M A6 n6 c6 F A7 n7 c7 Q) := ⟨by rw [(KI.noFlush hp).2] at hR4; exact hR4, ho64, ho74, hdj, hki⟩
            clear hR4 ho64 ho74 hdj hki hp hY4
            go_wp2_with fail
            refine ⟨?_, ?_⟩
            · first
              | exact ⟨k + 1, M, A6, A7, n6, c6, n7, c7, F, Q, by omega, by go_num, by first | rfl | trivial, by first | rfl | trivial, hK4, hB4, hz4, by omega⟩
              | repeat apply Exists.intro
                refine ⟨?_, rfl⟩
                exact ⟨k + 1, M, A6, A7, n6, c6, n7, c7, F, Q, by omega, by go_num, by first | rfl | trivial, by first | rfl | trivial, hK4, hB4, hz4, by omega⟩
            · simp [intOf]; omega
          | true =>
            have hkf := Lib.hid (hki.flush hp).2
            have hK0 : Hid (KF B B2 s w4 (flM M x.f) A6 n6 c6 F A7 n7 c7 Q none 0 0 []) := ⟨hR4, ho64, ho74, OwnX.nil tNo 3 B2 w4, hdj, Dj.nil _, fun a a2 h _ => nomatch h⟩
            have hY0 := Lib.hid hY4
            clear hR4 ho64 ho74 hdj hki hp hY4
            go_wp2_with fail
            go_loopw [6, 12, 97] (fun u6 u12 i wr => ∃ (k2 : Nat) (A6' A12 : Option Addr) (n6' c6' n12 c12 : Nat), k2 ≤ n7 ∧ i = .int .i64 k2 ∧ u6 = .slice A6' n6' c6' ∧ u12 = .slice A12 n12 c12 ∧ Hid (KF B B2 s wr (flM M x.f) A6' n6' c6' (F ++ (Q.take k2).filter (isF x.f)) A7 n7 c7 Q A12 n12 c12 (notP (isF x.f) (Q.take k2))) ∧ Hid (Blk wr g x.cells tAc) ∧ Below B w wr ∧ B2 ≤ wr.heap.size) (fun _ _ i _ => n7 - (intOf i).toNat)
            case atStart => exact ⟨0, A6, none, n6, c6, 0, 0, Nat.zero_le _, rfl, rfl, rfl, by rw [List.take_zero]; exact (by rw [List.filter_nil, List.append_nil]; exact hK0), hY0, hB4, hz4⟩
            case round =>
              clear hK0 hY0 hB4 hz4
              obtain ⟨k2, A6', A12, n6', c6', n12, c12, hk2n, rfl, rfl, rfl, hK, hY, hB, hz⟩ := hrel
              by_cases hlt2 : k2 < n7
              · obtain ⟨y, hy⟩ : ∃ y, Q[k2]? = some y := ⟨_, List.getElem?_eq_getElem (show k2 < Q.length by omega)⟩
                obtain ⟨ad7, rfl, had7, hc⟩ := hK.out.o7.rd k2 (noC y) (by rw [List.getElem?_map, hy]; rfl)
                have i2 : (k2 : Int) < (n7 : Int) := by omega
                have ix := nix wr ad7 n7 c7 k2 hlt2
                have ld := nld hc
                go_upto_region 16 with fail
                refine wp_region_lit ?_
                refine fl_start ?_
                generalize ha : Act.mk _ _ = a0
                have hn : a0.tmps.size = 207 := by rw [← ha]; kernel_rfl
                have h95 : (fr a0 []).eval (.tmp 95) = .slice (some ad7) n7 c7 := by rw [← ha]; kernel_rfl
                refine fl_know hn rfl h95 ?_
                clear h95
                have h97 : (fr a0 [(95, true, .slice (some ad7) n7 c7)]).eval (.tmp 97) = .int .i64 (k2 : Int) := by rw [← ha]; kernel_rfl
                refine fl_know hn rfl h97 ?_
                clear h97
                refine g_ix hn ?_
                refine g_ld hn ?_
                refine al_row hn (alN wr) ?_
                intro g2 wv hgv2 hYv hBv
                refine g_str hYv ?_ (h1 := no_oneC y)
                intro w5 ho hY2
                refine fl_end ?_
                clear hn
                subst ha
                dsimp only [fr, cnd, Act.put, cond_true]
                simp only [List.setIfInBounds_toArray, List.set_cons_zero, List.set_cons_succ]
                have hW5 : Below wr.heap.size wr w5 := hBv.trans (ho.below (by omega))
                have hK5 := hK.out.below hW5
                have hY5 := hY.out.keep hW5
                have hB5 : Below B w w5 := hB.trans (hW5.mono (by have := hB.size; omega))
                have hz5 : B2 ≤ w5.heap.size := by have := hW5.size; omega
                have hY5 := Lib.hid hY5
                have hs6 : n6' ≤ 1000000 := by
                  have h1 := hK5.o6.len
                  rw [List.length_map, List.length_append] at h1
                  have h2 := List.length_filter_le (isF x.f) (Q.take k2)
                  rw [List.length_take] at h2
                  omega
                have hs12 : n12 ≤ 1000000 := by
                  have h1 := hK5.o12.len
                  rw [List.length_map] at h1
                  have h2 := List.length_filter_le (fun y => !isF x.f y) (Q.take k2)
                  have h3 : (notP (isF x.f) (Q.take k2)).length ≤ (Q.take k2).length := h2
                  rw [List.length_take] at h3
                  omega
                clear ix ld hc hYv hBv ho hK hY hB hz hW5
                have f0 := nfd0 w5 g2
                have f1 := afd1 w5 g
                have l0 : (Instr.loadAt 3 (.pointer (some ⟨g2, 0, none⟩))).run Tryd.prog w5 = .ok (.int .i64 y.f) w5 := load_int (hY2.cell 0)
                have l1 : (Instr.loadAt 3 (.pointer (some ⟨g, 1, none⟩))).run Tryd.prog w5 = .ok (.int .i64 x.f) w5 := load_int (hY5.out.cell 1)
                go_upto_region 17 with fail
                refine wp_region_lit ?_
                refine fl_start ?_
                generalize ha : Act.mk _ _ = a0
                have hn : a0.tmps.size = 207 := by rw [← ha]; kernel_rfl
                have h9 : (fr a0 []).eval (.tmp 9) = .pointer (some ⟨g, 0, none⟩) := by rw [← ha]; kernel_rfl
                refine fl_know hn rfl h9 ?_
                clear h9
                have h14 : (fr a0 [(9, true, .pointer (some ⟨g, 0, none⟩))]).eval (.tmp 14) = .pointer (some ⟨g2, 0, none⟩) := by rw [← ha]; kernel_rfl
                refine fl_know hn rfl h14 ?_
                clear h14
                refine g_fd hn ?_
                refine g_ld hn ?_
                refine g_fd hn ?_
                refine g_ld hn ?_
                refine g_eql2 hn ?_
                refine fl_end ?_
                clear hn
                subst ha
                dsimp only [fr, cnd, Act.put, cond_true]
                simp only [List.setIfInBounds_toArray, List.set_cons_zero, List.set_cons_succ]
                clear f0 f1 l0 l1
                have ld := nld_blk hY2
                cases hyf : (y.f == x.f) with
                | true =>
                  go_upto_region 18 with fail
                  refine wp_region_lit ?_
                  refine fl_start ?_
                  generalize ha : Act.mk _ _ = a0
                  have hn : a0.tmps.size = 207 := by rw [← ha]; kernel_rfl
                  have h6 : (fr a0 []).eval (.tmp 6) = .slice A6' n6' c6' := by rw [← ha]; kernel_rfl
                  refine fl_know hn rfl h6 ?_
                  clear h6
                  have h14 : (fr a0 [(6, true, .slice A6' n6' c6')]).eval (.tmp 14) = .pointer (some ⟨g2, 0, none⟩) := by rw [← ha]; kernel_rfl
                  refine fl_know hn rfl h14 ?_
                  clear h14
                  refine g_mv hn ?_
                  refine g_ld hn ?_
                  refine g_bs1N hn ?_
                  intro g6 w6 hg6 hY6 hB6
                  have hK6 := hK5.below hB6
                  have hY5' := hY5.out.keep hB6
                  refine g_apN (base := B2) hn hK6.o6 hY6 hs6 (by have := hB6.size; omega) ?_
                  rintro v7 w7 ⟨A8, c8, rfl, ho77, hB7, hk7, hA7⟩
                  refine g_as hn ?_
                  refine fl_end ?_
                  clear hn
                  subst ha
                  dsimp only [fr, cnd, Act.put, cond_true]
                  simp only [List.setIfInBounds_toArray, List.set_cons_zero, List.set_cons_succ]
                  have hB6' : Below B w w6 := hB5.trans (hB6.mono (by have := hB5.size; omega))
                  have hK7 := hK6.ap6 hBB2 ho77 hB7 hk7 hA7
                  have hY7 : Hid (Blk w7 g x.cells tAc) := hY5'.aside hK6.o6 (by decide) hk7
                  have hB7' : Below B w w7 := hB6'.trans (hB7.mono hBB2)
                  have hz7 : B2 ≤ w7.heap.size := by have := hB7.size; have := hB6.size; omega
                  have hK8 : Hid (KF B B2 s w7 (flM M x.f) A8 (n6' + 1) c8 (F ++ (Q.take (k2 + 1)).filter (isF x.f)) (some ad7) n7 c7 Q A12 n12 c12 (notP (isF x.f) (Q.take (k2 + 1)))) := by
                    rw [filt_next hy, notP_next hy]
                    unfold isF
                    rw [hyf, cond_true, cond_true]
                    rw [← List.append_assoc]
                    exact hK7
                  clear ld hK5 hY5 hB5 hz5 hY2 hY6 hB6 hK6 hY5' ho77 hB7 hk7 hA7 hB6' hK7 hy hyf
                  go_wp2_with fail
                  refine ⟨?_, ?_⟩
                  · first
                    | exact ⟨k2 + 1, A8, A12, n6' + 1, c8, n12, c12, by omega, by go_num, by first | rfl | trivial, by first | rfl | trivial, hK8, hY7, hB7', hz7⟩
                    | repeat apply Exists.intro
                      refine ⟨?_, rfl⟩
                      exact ⟨k2 + 1, A8, A12, n6' + 1, c8, n12, c12, by omega, by go_num, by first | rfl | trivial, by first | rfl | trivial, hK8, hY7, hB7', hz7⟩
                  · simp [intOf]; omega
                | false =>
                  go_upto_region 19 with fail
                  refine wp_region_lit ?_
                  refine fl_start ?_
                  generalize ha : Act.mk _ _ = a0
                  have hn : a0.tmps.size = 207 := by rw [← ha]; kernel_rfl
                  have h12 : (fr a0 []).eval (.tmp 12) = .slice A12 n12 c12 := by rw [← ha]; kernel_rfl
                  refine fl_know hn rfl h12 ?_
                  clear h12
                  have h14 : (fr a0 [(12, true, .slice A12 n12 c12)]).eval (.tmp 14) = .pointer (some ⟨g2, 0, none⟩) := by rw [← ha]; kernel_rfl
                  refine fl_know hn rfl h14 ?_
                  clear h14
                  refine g_mv hn ?_
                  refine g_ld hn ?_
                  refine g_bs1N hn ?_
                  intro g6 w6 hg6 hY6 hB6
                  have hK6 := hK5.below hB6
                  have hY5' := hY5.out.keep hB6
                  refine g_apN (base := B2) hn hK6.o12 hY6 hs12 (by have := hB6.size; omega) ?_
                  rintro v7 w7 ⟨A8, c8, rfl, ho77, hB7, hk7, hA7⟩
                  refine g_as hn ?_
                  refine fl_end ?_
                  clear hn
                  subst ha
                  dsimp only [fr, cnd, Act.put, cond_true]
                  simp only [List.setIfInBounds_toArray, List.set_cons_zero, List.set_cons_succ]
                  have hB6' : Below B w w6 := hB5.trans (hB6.mono (by have := hB5.size; omega))
                  have hK7 := hK6.ap12 hBB2 ho77 hB7 hk7 hA7
                  have hY7 : Hid (Blk w7 g x.cells tAc) := hY5'.aside hK6.o12 (by decide) hk7
                  have hB7' : Below B w w7 := hB6'.trans (hB7.mono hBB2)
                  have hz7 : B2 ≤ w7.heap.size := by have := hB7.size; have := hB6.size; omega
                  have hK8 : Hid (KF B B2 s w7 (flM M x.f) A6' n6' c6' (F ++ (Q.take (k2 + 1)).filter (isF x.f)) (some ad7) n7 c7 Q A8 (n12 + 1) c8 (notP (isF x.f) (Q.take (k2 + 1)))) := by
                    rw [filt_next hy, notP_next hy]
                    unfold isF
                    rw [hyf, cond_false, cond_false]
                    exact hK7
                  clear ld hK5 hY5 hB5 hz5 hY2 hY6 hB6 hK6 hY5' ho77 hB7 hk7 hA7 hB6' hK7 hy hyf
                  go_wp2_with fail
                  refine ⟨?_, ?_⟩
                  · first
                    | exact ⟨k2 + 1, A6', A8, n6', c6', n12 + 1, c8, by omega, by go_num, by first | rfl | trivial, by first | rfl | trivial, hK8, hY7, hB7', hz7⟩
                    | repeat apply Exists.intro
                      refine ⟨?_, rfl⟩
                      exact ⟨k2 + 1, A6', A8, n6', c6', n12 + 1, c8, by omega, by go_num, by first | rfl | trivial, by first | rfl | trivial, hK8, hY7, hB7', hz7⟩
                  · simp [intOf]; omega
              · have ek : k2 = n7 := by omega
                subst ek
                have i2 : ¬ ((k2 : Int) < (k2 : Int)) := by omega
                have hK9 : Hid (KR B B2 s wr (flM M x.f) A6' n6' c6' (F ++ Q.filter (isF x.f)) A12 n12 c12 (notP (isF x.f) Q)) := by
                  have h := hK.out
                  rw [List.take_of_length_le (by omega)] at h
                  exact ⟨h.sl, h.o6, h.o12, h.d612, hkf.out⟩
                have hl9 : (F ++ Q.filter (isF x.f)).length + (notP (isF x.f) Q).length ≤ k + 1 := by
                  have h1 := filt_len (isF x.f) Q
                  rw [List.length_append]
                  omega
                clear hK hY hkf
                go_wp2_with fail
                refine ⟨?_, ?_⟩
                · first
                  | exact ⟨k + 1, flM M x.f, A6', A12, n6', c6', n12, c12, F ++ Q.filter (isF x.f), notP (isF x.f) Q, by omega, by go_num, by first | rfl | trivial, by first | rfl | trivial, hK9, hB, hz, hl9⟩
                  | repeat apply Exists.intro
                    refine ⟨?_, rfl⟩
                    exact ⟨k + 1, flM M x.f, A6', A12, n6', c6', n12, c12, F ++ Q.filter (isF x.f), notP (isF x.f) Q, by omega, by go_num, by first | rfl | trivial, by first | rfl | trivial, hK9, hB, hz, hl9⟩
                · simp [intOf]; omega
        · have hK4 := Lib.hid hK3
          have f0 := afd0 w3 g
          have l0 : (Instr.loadAt 3 (.pointer (some ⟨g, 0, none⟩))).run Tryd.prog w3 = .ok (.int .i64 x.k) w3 := load_int (hY.cell 0)
          go_upto_region 9 with fail
          refine wp_region_lit ?_
          refine fl_start ?_
          generalize ha : Act.mk _ _ = a0
          have hn : a0.tmps.size = 207 := by rw [← ha]; kernel_rfl
          have h5 : (fr a0 []).eval (.tmp 5) = .pointer (some ⟨s, 0, none⟩) := by rw [← ha]; kernel_rfl
          refine fl_know hn rfl h5 ?_
          clear h5
          have h9 : (fr a0 [(5, true, .pointer (some ⟨s, 0, none⟩))]).eval (.tmp 9) = .pointer (some ⟨g, 0, none⟩) := by rw [← ha]; kernel_rfl
          refine fl_know hn rfl h9 ?_
          clear h9
          refine g_fd hn ?_
          refine g_ld hn ?_
          refine g_o1 hn (i := 52) (vi := .int .i64 x.k) (v := .bool false) (fun ρ h hc => x_ek h (hc _) (by simp [hk1])) ?_
          refine g_mv hn ?_
          refine g_offv .nilIface hn ?_
          refine g_offv .nilIface hn ?_
          refine g_offv .nilIface hn ?_
          refine g_offv .nilIface hn ?_
          refine g_offv .nilIface hn ?_
          refine g_offv .nilIface hn ?_
          refine g_offv .nilIface hn ?_
          refine g_offv .nilIface hn ?_
          refine g_offv (.bool false) hn ?_
          refine g_an hn ?_
          refine g_as hn ?_
          refine fl_end ?_
          clear hn
          subst ha
          dsimp only [fr, cnd, Act.put, cond_true]
          simp only [List.setIfInBounds_toArray, List.set_cons_zero, List.set_cons_succ]
          clear f0 l0
          simp only [Bool.false_and]
          have f0 := afd0 w3 g
          have l0 : (Instr.loadAt 3 (.pointer (some ⟨g, 0, none⟩))).run Tryd.prog w3 = .ok (.int .i64 x.k) w3 := load_int (hY.cell 0)
          go_upto_region 12 with fail
          refine wp_region_lit ?_
          refine fl_start ?_
          generalize ha : Act.mk _ _ = a0
          have hn : a0.tmps.size = 207 := by rw [← ha]; kernel_rfl
          have h5 : (fr a0 []).eval (.tmp 5) = .pointer (some ⟨s, 0, none⟩) := by rw [← ha]; kernel_rfl
          refine fl_know hn rfl h5 ?_
          clear h5
          have h9 : (fr a0 [(5, true, .pointer (some ⟨s, 0, none⟩))]).eval (.tmp 9) = .pointer (some ⟨g, 0, none⟩) := by rw [← ha]; kernel_rfl
          refine fl_know hn rfl h9 ?_
          clear h9
          refine g_fd hn ?_
          refine g_ld hn ?_
          refine g_o1 hn (i := 86) (vi := .int .i64 x.k) (v := .bool false) (fun ρ h hc => x_ek h (hc _) (by simp [hk2])) ?_
          refine g_mv hn ?_
          refine g_offv .nilIface hn ?_
          refine g_offv .nilIface hn ?_
          refine g_offv .nilIface hn ?_
          refine g_offv .nilIface hn ?_
          refine g_offv (.bool false) hn ?_
          refine g_an hn ?_
          refine g_as hn ?_
          refine fl_end ?_
          clear hn
          subst ha
          dsimp only [fr, cnd, Act.put, cond_true]
          simp only [List.setIfInBounds_toArray, List.set_cons_zero, List.set_cons_succ]
          clear f0 l0
          simp only [Bool.false_and]
          clear hK3 hY hxr hl64
          go_wp2_with fail
          refine ⟨?_, ?_⟩
          · first
            | exact ⟨k + 1, M, A6, A7, n6, c6, n7, c7, F, Q, by omega, by go_num, by first | rfl | trivial, by first | rfl | trivial, hK4, hB3, hz3, by omega⟩
            | repeat apply Exists.intro
              refine ⟨?_, rfl⟩
              exact ⟨k + 1, M, A6, A7, n6, c6, n7, c7, F, Q, by omega, by go_num, by first | rfl | trivial, by first | rfl | trivial, hK4, hB3, hz3, by omega⟩
          · simp [intOf]; omega
    · have i2 : ¬ ((k : Int) < (n : Int)) := by omega
      have cC := crash_any B s M A2 m2 c2 keep wr hK.out.sl hkn ((HK.out wr hB).less (by omega))
      go_upto_region 23 with fail
      refine wp_region_lit ?_
      refine fl_start ?_
      generalize ha : Act.mk _ _ = a0
      have hn : a0.tmps.size = 207 := by rw [← ha]; kernel_rfl
      have h1 : (fr a0 []).eval (.tmp 1) = .slice A2 m2 c2 := by rw [← ha]; kernel_rfl
      refine fl_know hn rfl h1 ?_
      clear h1
      have h5 : (fr a0 [(1, true, .slice A2 m2 c2)]).eval (.tmp 5) = .pointer (some ⟨s, 0, none⟩) := by rw [← ha]; kernel_rfl
      refine fl_know hn rfl h5 ?_
      clear h5
      refine g_mv hn ?_
      refine g_mv hn ?_
      refine g_cvx en_spinney_slate_Slate_Crash hn (R := fun v w2 => ∃ s5, v = .pointer (some ⟨s5, 0, none⟩) ∧ SlR wr.heap.size w2 s5 (M.crash keep) ∧ Below wr.heap.size wr w2) (vs := #[.pointer (some ⟨s, 0, none⟩), .slice A2 m2 c2]) (fun hk => by simp only [List.map_toArray, List.map_cons, List.map_nil, lk_at hk (i := 117) rfl (fun _ => rfl) rfl, lk_at hk (i := 118) rfl (fun _ => rfl) rfl]) (cC.mono fun e _ ⟨v, he, s5, hv, h⟩ => ⟨v, he, s5, hv, h⟩) ?_
      rintro v w5 ⟨s5, rfl, hR5, hW5⟩
      refine g_as hn ?_
      refine fl_end ?_
      clear hn
      subst ha
      dsimp only [fr, cnd, Act.put, cond_true]
      simp only [List.setIfInBounds_toArray, List.set_cons_zero, List.set_cons_succ]
      have HO6 := Lib.hid (hK.out.o6.keep hW5)
      have HO7 := Lib.hid (hK.out.o7.keep hW5)
      have HKI := Lib.hid hK.out.ki
      have hB5 : Below B w w5 := hB.trans (hW5.mono (by have := hB.size; omega))
      have hBs : B ≤ w5.heap.size := by have := hB5.size; have := hB.size; omega
      have hs6 : n6 ≤ 60 := by omega
      have hs7 : n7 ≤ 60 := by omega
      clear cC hK hB hz hW5 HK HL hL hgE hkn hlen i2
      have cP := pending_any wr.heap.size s5 (M.crash keep) w5 hR5
      have cD := dead_any wr.heap.size s5 (M.crash keep) w5 hR5
      go_upto_region 24 with fail
      refine wp_region_lit ?_
      refine fl_start ?_
      generalize ha : Act.mk _ _ = a0
      have hn : a0.tmps.size = 207 := by rw [← ha]; kernel_rfl
      have h15 : (fr a0 []).eval (.tmp 15) = .pointer (some ⟨s5, 0, none⟩) := by rw [← ha]; kernel_rfl
      refine fl_know hn rfl h15 ?_
      clear h15
      refine g_mv hn ?_
      refine g_o1 hn (i := 120) (vi := .pointer (some ⟨s5, 0, none⟩)) (v := .bool false) (fun ρ h hc => x_np h (hc _)) ?_
      refine g_mv hn ?_
      refine g_mv hn ?_
      refine g_cvx en_spinney_slate_Slate_Pending hn (R := fun v w2 => v = .int .i64 0 ∧ w2 = w5) (vs := #[.pointer (some ⟨s5, 0, none⟩)]) (fun hk => by simp only [List.map_toArray, List.map_cons, List.map_nil, lk_at hk (i := 123) rfl (fun _ => rfl) rfl]) (cP.mono fun _ _ ⟨he, h⟩ => ⟨_, he, rfl, h⟩) ?_
      rintro v w6 ⟨rfl, h6⟩
      subst w6
      refine g_o1 hn (i := 124) (vi := .int .i64 0) (v := .bool false) (fun ρ h hc => x_nk h (hc _) rfl) ?_
      refine g_or hn ?_
      refine g_mv hn ?_
      refine g_mv hn ?_
      refine g_cvx en_spinney_slate_Slate_Dead hn (R := fun v w2 => v = .bool false ∧ w2 = w5) (vs := #[.pointer (some ⟨s5, 0, none⟩)]) (fun hk => by simp only [List.map_toArray, List.map_cons, List.map_nil, lk_at hk (i := 128) rfl (fun _ => rfl) rfl]) (cD.mono fun _ _ ⟨he, h⟩ => ⟨_, he, rfl, h⟩) ?_
      rintro v w6 ⟨rfl, h6⟩
      subst w6
      refine g_or hn ?_
      refine fl_end ?_
      clear hn
      subst ha
      dsimp only [fr, cnd, Act.put, cond_true]
      simp only [List.setIfInBounds_toArray, List.set_cons_zero, List.set_cons_succ]
      clear cP cD
      simp only [Bool.or_false]
      have HR5 := Lib.hid (fun W (hb : Below w5.heap.size w5 W) => hR5.below hb)
      clear hR5
      go_wp2_with fail
      go_loopw [133] (fun i wr => ∃ (k3 : Nat), k3 ≤ n ∧ i = .int .i64 k3 ∧ Below w5.heap.size w5 wr) (fun i _ => n - (intOf i).toNat)
      case atStart => exact ⟨0, Nat.zero_le _, rfl, Below.refl _ _⟩
      case round =>
        obtain ⟨k3, hk3, rfl, hb⟩ := hrel
        by_cases hlt3 : k3 < n
        · obtain ⟨x, hx⟩ : ∃ x, acts[k3]? = some x := ⟨_, List.getElem?_eq_getElem (show k3 < acts.length by have := HN.out; omega)⟩
          obtain ⟨ad, rfl, hadb, hc, hxr⟩ := (HR.out wr (hB5.trans (hb.mono hBs))).at_ hx
          clear hx hxr
          have i3 : (k3 : Int) < (n : Int) := by omega
          have ix := aix wr ad n c k3 hlt3
          have ld := ald hc
          go_upto_region 28 with fail
          refine wp_region_lit ?_
          refine fl_start ?_
          generalize ha : Act.mk _ _ = a0
          have hn : a0.tmps.size = 207 := by rw [← ha]; kernel_rfl
          have h131 : (fr a0 []).eval (.tmp 131) = .slice (some ad) n c := by rw [← ha]; kernel_rfl
          refine fl_know hn rfl h131 ?_
          clear h131
          have h133 : (fr a0 [(131, true, .slice (some ad) n c)]).eval (.tmp 133) = .int .i64 (k3 : Int) := by rw [← ha]; kernel_rfl
          refine fl_know hn rfl h133 ?_
          clear h133
          refine g_ix hn ?_
          refine g_ld hn ?_
          refine al_row hn (alA6 wr) ?_
          intro g wv hgv hYv hBv
          refine g_str hYv ?_ (h1 := ac_oneC x)
          intro w6 ho hY
          refine fl_end ?_
          clear hn
          subst ha
          dsimp only [fr, cnd, Act.put, cond_true]
          simp only [List.setIfInBounds_toArray, List.set_cons_zero, List.set_cons_succ]
          have hW6 : Below wr.heap.size wr w6 := hBv.trans (ho.below (by omega))
          have hb6 : Below w5.heap.size w5 w6 := hb.trans (hW6.mono hb.size)
          clear ix ld hc hYv hBv ho hb hW6
          have cR := read_any _ s5 _ x.f x.b w6 (HR5.out w6 hb6)
          have hbl := HKI.out.crash keep x.f x.b
          have h64 := len_blk HKI.out keep x.f x.b
          have f1 := afd1 w6 g
          have l1 : (Instr.loadAt 3 (.pointer (some ⟨g, 1, none⟩))).run Tryd.prog w6 = .ok (.int .i64 x.f) w6 := load_int (hY.cell 1)
          have f2 := afd2 w6 g
          have l2 : (Instr.loadAt 3 (.pointer (some ⟨g, 2, none⟩))).run Tryd.prog w6 = .ok (.int .i64 x.b) w6 := load_int (hY.cell 2)
          cases hp : placeB x.f x.b with
          | false =>
            go_upto_region 29 with fail
            refine wp_region_lit ?_
            refine fl_start ?_
            generalize ha : Act.mk _ _ = a0
            have hn : a0.tmps.size = 207 := by rw [← ha]; kernel_rfl
            have h15 : (fr a0 []).eval (.tmp 15) = .pointer (some ⟨s5, 0, none⟩) := by rw [← ha]; kernel_rfl
            refine fl_know hn rfl h15 ?_
            clear h15
            have h17 : (fr a0 [(15, true, .pointer (some ⟨s5, 0, none⟩))]).eval (.tmp 17) = .pointer (some ⟨g, 0, none⟩) := by rw [← ha]; kernel_rfl
            refine fl_know hn rfl h17 ?_
            clear h17
            refine g_mv hn ?_
            refine g_fd hn ?_
            refine g_ld hn ?_
            refine g_fd hn ?_
            refine g_ld hn ?_
            refine g_cvx en_spinney_slate_Slate_Read hn (R := fun v w7 => v = .tuple #[.slice none 0 0, .int .i64 1] ∧ Below w6.heap.size w6 w7) (vs := #[.pointer (some ⟨s5, 0, none⟩), .int .i64 x.f, .int .i64 x.b]) (fun hk => by simp only [List.map_toArray, List.map_cons, List.map_nil, lk_at hk (i := 138) rfl (fun _ => rfl) rfl, lk_at hk (i := 140) rfl (fun _ => rfl) rfl, lk_at hk (i := 142) rfl (fun _ => rfl) rfl]) (cR.mono fun e w7 h => by
              unfold ReadR at h
              rw [hp] at h
              exact ⟨_, h.1, rfl, h.2⟩) ?_
            rintro v w7 ⟨rfl, hb7⟩
            refine g_mv hn ?_
            refine g_ex hn ?_
            refine g_ex hn ?_
            refine g_as hn ?_
            refine g_as hn ?_
            refine fl_end ?_
            clear hn
            subst ha
            dsimp only [fr, cnd, Act.put, cond_true]
            simp only [List.setIfInBounds_toArray, List.set_cons_zero, List.set_cons_succ]
            have hb7' : Below w5.heap.size w5 w7 := hb6.trans (hb7.mono hb6.size)
            clear f1 l1 f2 l2 cR hY hb6 hb7 hbl h64 hp
            go_upto_region 30 with fail
            refine wp_region_lit ?_
            refine fl_start ?_
            generalize ha : Act.mk _ _ = a0
            have hn : a0.tmps.size = 207 := by rw [← ha]; kernel_rfl
            have h19 : (fr a0 []).eval (.tmp 19) = .int .i64 1 := by rw [← ha]; kernel_rfl
            refine fl_know hn rfl h19 ?_
            clear h19
            refine g_mv hn ?_
            refine g_o1 hn (i := 146) (vi := .int .i64 1) (v := .bool true) (fun ρ h hc => x_ne h (hc _) rfl) ?_
            refine fl_end ?_
            clear hn
            subst ha
            dsimp only [fr, cnd, Act.put, cond_true]
            simp only [List.setIfInBounds_toArray, List.set_cons_zero, List.set_cons_succ]
            go_wp2_with fail
            refine ⟨?_, ?_⟩
            · first
              | exact ⟨k3 + 1, by omega, by go_num, hb7'⟩
              | repeat apply Exists.intro
                refine ⟨?_, rfl⟩
                exact ⟨k3 + 1, by omega, by go_num, hb7'⟩
            · simp [intOf]; omega
          | true =>
            go_upto_region 29 with fail
            refine wp_region_lit ?_
            refine fl_start ?_
            generalize ha : Act.mk _ _ = a0
            have hn : a0.tmps.size = 207 := by rw [← ha]; kernel_rfl
            have h15 : (fr a0 []).eval (.tmp 15) = .pointer (some ⟨s5, 0, none⟩) := by rw [← ha]; kernel_rfl
            refine fl_know hn rfl h15 ?_
            clear h15
            have h17 : (fr a0 [(15, true, .pointer (some ⟨s5, 0, none⟩))]).eval (.tmp 17) = .pointer (some ⟨g, 0, none⟩) := by rw [← ha]; kernel_rfl
            refine fl_know hn rfl h17 ?_
            clear h17
            refine g_mv hn ?_
            refine g_fd hn ?_
            refine g_ld hn ?_
            refine g_fd hn ?_
            refine g_ld hn ?_
            refine g_cvx en_spinney_slate_Slate_Read hn (R := fun v w7 => ∃ g5, v = .tuple #[.slice (some ⟨g5, 0, none⟩) 64 64, .int .i64 0] ∧ Blk w7 g5 (bkA (blkD (M.crash keep).seen x.f x.b)) 85 ∧ Below w6.heap.size w6 w7) (vs := #[.pointer (some ⟨s5, 0, none⟩), .int .i64 x.f, .int .i64 x.b]) (fun hk => by simp only [List.map_toArray, List.map_cons, List.map_nil, lk_at hk (i := 138) rfl (fun _ => rfl) rfl, lk_at hk (i := 140) rfl (fun _ => rfl) rfl, lk_at hk (i := 142) rfl (fun _ => rfl) rfl]) (cR.mono fun e w7 h => by
              unfold ReadR at h
              rw [hp] at h
              obtain ⟨⟨g5, rfl, h1, _⟩, h2⟩ := h
              exact ⟨_, rfl, g5, rfl, h1, h2⟩) ?_
            rintro v w7 ⟨g5, rfl, hX7, hb7⟩
            refine g_mv hn ?_
            refine g_ex hn ?_
            refine g_ex hn ?_
            refine g_as hn ?_
            refine g_as hn ?_
            refine fl_end ?_
            clear hn
            subst ha
            dsimp only [fr, cnd, Act.put, cond_true]
            simp only [List.setIfInBounds_toArray, List.set_cons_zero, List.set_cons_succ]
            have hb7' : Below w5.heap.size w5 w7 := hb6.trans (hb7.mono hb6.size)
            have hY7 := hY.keep hb7
            clear f1 l1 f2 l2 cR hY hb6 hb7 hp
            go_upto_region 30 with fail
            refine wp_region_lit ?_
            refine fl_start ?_
            generalize ha : Act.mk _ _ = a0
            have hn : a0.tmps.size = 207 := by rw [← ha]; kernel_rfl
            have h19 : (fr a0 []).eval (.tmp 19) = .int .i64 0 := by rw [← ha]; kernel_rfl
            refine fl_know hn rfl h19 ?_
            clear h19
            refine g_mv hn ?_
            refine g_o1 hn (i := 146) (vi := .int .i64 0) (v := .bool false) (fun ρ h hc => x_ne h (hc _) rfl) ?_
            refine fl_end ?_
            clear hn
            subst ha
            dsimp only [fr, cnd, Act.put, cond_true]
            simp only [List.setIfInBounds_toArray, List.set_cons_zero, List.set_cons_succ]
            go_upto_region 31 with fail
            refine wp_region_lit ?_
            refine fl_start ?_
            generalize ha : Act.mk _ _ = a0
            have hn : a0.tmps.size = 207 := by rw [← ha]; kernel_rfl
            refine g_mk64 hn ?_
            intro g8 w8 hX8 hb8
            have cv := conv_rd w8 (some ⟨g8, 0, none⟩) 64 64 z64 (by rfl) (blk_rdb hX8)
            rw [show (⟨z64.toArray⟩ : ByteArray) = strL z64 from rfl] at cv
            refine g_cv hn ?_
            refine g_as hn ?_
            refine fl_end ?_
            clear hn
            subst ha
            dsimp only [fr, cnd, Act.put, cond_true]
            simp only [List.setIfInBounds_toArray, List.set_cons_zero, List.set_cons_succ]
            have HX := Lib.hid (fun W (h : Below w8.heap.size w8 W) => (hX7.keep hb8).keep h)
            have HY := Lib.hid (fun W (h : Below w8.heap.size w8 W) => (hY7.keep hb8).keep h)
            have hb8' : Below w5.heap.size w5 w8 := hb7'.trans (hb8.mono hb7'.size)
            clear cv hX8 hX7 hY7 hb8 hb7'
            generalize hlv : blkD (M.crash keep).seen x.f x.b = lv at *
            clear hlv
            have HH := Lib.hid (And.intro hbl h64)
            clear hbl h64
            go_wp2_with fail
            go_loopw [20, 152] (fun u20 i wr => ∃ (k4 : Nat), k4 ≤ n6 ∧ i = .int .i64 k4 ∧ u20 = .string (strL (lastN (F.take k4) x.f x.b)) ∧ Below w8.heap.size w8 wr) (fun _ i _ => n6 - (intOf i).toNat)
            case atStart => exact ⟨0, Nat.zero_le _, rfl, rfl, Below.refl _ _⟩
            case round =>
              obtain ⟨k4, hk4, rfl, rfl, hb9⟩ := hrel
              have hb9' : Below w5.heap.size w5 wr := hb8'.trans (hb9.mono hb8'.size)
              by_cases hlt4 : k4 < n6
              · obtain ⟨y, hy⟩ : ∃ y, F[k4]? = some y := ⟨_, List.getElem?_eq_getElem (show k4 < F.length by omega)⟩
                obtain ⟨ad6, hA6, had6, hc⟩ := (HO6.out.keep hb9').rd k4 (noC y) (by rw [List.getElem?_map, hy]; rfl)
                have i4 : (k4 : Int) < (n6 : Int) := by omega
                have ix := nix wr ad6 n6 c6 k4 hlt4
                have ld := nld hc
                rw [hA6]
                go_upto_region 34 with fail
                refine wp_region_lit ?_
                refine fl_start ?_
                generalize ha : Act.mk _ _ = a0
                have hn : a0.tmps.size = 207 := by rw [← ha]; kernel_rfl
                have h150 : (fr a0 []).eval (.tmp 150) = .slice (some ad6) n6 c6 := by rw [← ha]; kernel_rfl
                refine fl_know hn rfl h150 ?_
                clear h150
                have h152 : (fr a0 [(150, true, .slice (some ad6) n6 c6)]).eval (.tmp 152) = .int .i64 (k4 : Int) := by rw [← ha]; kernel_rfl
                refine fl_know hn rfl h152 ?_
                clear h152
                refine g_ix hn ?_
                refine g_ld hn ?_
                refine al_row hn (alN wr) ?_
                intro g2 wv hgv2 hYv hBv
                refine g_str hYv ?_ (h1 := no_oneC y)
                intro w10 ho hY2
                refine fl_end ?_
                clear hn
                subst ha
                dsimp only [fr, cnd, Act.put, cond_true]
                simp only [List.setIfInBounds_toArray, List.set_cons_zero, List.set_cons_succ]
                have hW10 : Below wr.heap.size wr w10 := hBv.trans (ho.below (by omega))
                clear ix ld hc hYv hBv ho
                have hb10 : Below w8.heap.size w8 w10 := hb9.trans (hW10.mono hb9.size)
                have hY10 := HY.out w10 hb10
                clear hW10 hb9 hb9'
                have f0 := nfd0 w10 g2
                have f1 := afd1 w10 g
                have l0 : (Instr.loadAt 3 (.pointer (some ⟨g2, 0, none⟩))).run Tryd.prog w10 = .ok (.int .i64 y.f) w10 := load_int (hY2.cell 0)
                have l1 : (Instr.loadAt 3 (.pointer (some ⟨g, 1, none⟩))).run Tryd.prog w10 = .ok (.int .i64 x.f) w10 := load_int (hY10.cell 1)
                have f2 := nfd1 w10 g2
                have f3 := afd2 w10 g
                have l2 : (Instr.loadAt 3 (.pointer (some ⟨g2, 1, none⟩))).run Tryd.prog w10 = .ok (.int .i64 y.b) w10 := load_int (hY2.cell 1)
                have l3 : (Instr.loadAt 3 (.pointer (some ⟨g, 2, none⟩))).run Tryd.prog w10 = .ok (.int .i64 x.b) w10 := load_int (hY10.cell 2)
                cases e1 : (y.f == x.f) with
                | false =>
                  go_upto_region 35 with fail
                  refine wp_region_lit ?_
                  refine fl_start ?_
                  generalize ha : Act.mk _ _ = a0
                  have hn : a0.tmps.size = 207 := by rw [← ha]; kernel_rfl
                  have h17 : (fr a0 []).eval (.tmp 17) = .pointer (some ⟨g, 0, none⟩) := by rw [← ha]; kernel_rfl
                  refine fl_know hn rfl h17 ?_
                  clear h17
                  have h22 : (fr a0 [(17, true, .pointer (some ⟨g, 0, none⟩))]).eval (.tmp 22) = .pointer (some ⟨g2, 0, none⟩) := by rw [← ha]; kernel_rfl
                  refine fl_know hn rfl h22 ?_
                  clear h22
                  refine g_fd hn ?_
                  refine g_ld hn ?_
                  refine g_fd hn ?_
                  refine g_ld hn ?_
                  refine g_o2 hn (i := 157) (j := 159) (vi := .int .i64 y.f) (vj := .int .i64 x.f) (v := .bool false) (fun ρ h h2 _ => x_e2 h h2 e1) ?_
                  refine g_mv hn ?_
                  refine g_offv .nilIface hn ?_
                  refine g_offv .nilIface hn ?_
                  refine g_offv .nilIface hn ?_
                  refine g_offv .nilIface hn ?_
                  refine g_offv (.bool false) hn ?_
                  refine g_an hn ?_
                  refine fl_end ?_
                  clear hn
                  subst ha
                  dsimp only [fr, cnd, Act.put, cond_true]
                  simp only [List.setIfInBounds_toArray, List.set_cons_zero, List.set_cons_succ]
                  clear f0 f1 l0 l1 f2 f3 l2 l3 hY2 hY10
                  simp only [Bool.false_and]
                  go_wp2_with fail
                  refine ⟨?_, ?_⟩
                  · first
                    | exact ⟨k4 + 1, by omega, by go_num, by rw [lastN_next F _ _ hy]; unfold stepN; rw [e1]; rfl, hb10⟩
                    | repeat apply Exists.intro
                      refine ⟨?_, rfl⟩
                      exact ⟨k4 + 1, by omega, by go_num, by rw [lastN_next F _ _ hy]; unfold stepN; rw [e1]; rfl, hb10⟩
                  · simp [intOf]; omega
                | true =>
                cases e2 : (y.b == x.b) with
                | false =>
                  go_upto_region 35 with fail
                  refine wp_region_lit ?_
                  refine fl_start ?_
                  generalize ha : Act.mk _ _ = a0
                  have hn : a0.tmps.size = 207 := by rw [← ha]; kernel_rfl
                  have h17 : (fr a0 []).eval (.tmp 17) = .pointer (some ⟨g, 0, none⟩) := by rw [← ha]; kernel_rfl
                  refine fl_know hn rfl h17 ?_
                  clear h17
                  have h22 : (fr a0 [(17, true, .pointer (some ⟨g, 0, none⟩))]).eval (.tmp 22) = .pointer (some ⟨g2, 0, none⟩) := by rw [← ha]; kernel_rfl
                  refine fl_know hn rfl h22 ?_
                  clear h22
                  refine g_fd hn ?_
                  refine g_ld hn ?_
                  refine g_fd hn ?_
                  refine g_ld hn ?_
                  refine g_o2 hn (i := 157) (j := 159) (vi := .int .i64 y.f) (vj := .int .i64 x.f) (v := .bool true) (fun ρ h h2 _ => x_e2 h h2 e1) ?_
                  refine g_mv hn ?_
                  refine g_fd hn ?_
                  refine g_ld hn ?_
                  refine g_fd hn ?_
                  refine g_ld hn ?_
                  refine g_o2 hn (i := 163) (j := 165) (vi := .int .i64 y.b) (vj := .int .i64 x.b) (v := .bool false) (fun ρ h h2 _ => x_e2 h h2 e2) ?_
                  refine g_an hn ?_
                  refine fl_end ?_
                  clear hn
                  subst ha
                  dsimp only [fr, cnd, Act.put, cond_true]
                  simp only [List.setIfInBounds_toArray, List.set_cons_zero, List.set_cons_succ]
                  clear f0 f1 l0 l1 f2 f3 l2 l3 hY2 hY10
                  simp only [Bool.and_false]
                  go_wp2_with fail
                  refine ⟨?_, ?_⟩
                  · first
                    | exact ⟨k4 + 1, by omega, by go_num, by rw [lastN_next F _ _ hy]; unfold stepN; rw [e1, e2]; rfl, hb10⟩
                    | repeat apply Exists.intro
                      refine ⟨?_, rfl⟩
                      exact ⟨k4 + 1, by omega, by go_num, by rw [lastN_next F _ _ hy]; unfold stepN; rw [e1, e2]; rfl, hb10⟩
                  · simp [intOf]; omega
                | true =>
                  go_upto_region 35 with fail
                  refine wp_region_lit ?_
                  refine fl_start ?_
                  generalize ha : Act.mk _ _ = a0
                  have hn : a0.tmps.size = 207 := by rw [← ha]; kernel_rfl
                  have h17 : (fr a0 []).eval (.tmp 17) = .pointer (some ⟨g, 0, none⟩) := by rw [← ha]; kernel_rfl
                  refine fl_know hn rfl h17 ?_
                  clear h17
                  have h22 : (fr a0 [(17, true, .pointer (some ⟨g, 0, none⟩))]).eval (.tmp 22) = .pointer (some ⟨g2, 0, none⟩) := by rw [← ha]; kernel_rfl
                  refine fl_know hn rfl h22 ?_
                  clear h22
                  refine g_fd hn ?_
                  refine g_ld hn ?_
                  refine g_fd hn ?_
                  refine g_ld hn ?_
                  refine g_o2 hn (i := 157) (j := 159) (vi := .int .i64 y.f) (vj := .int .i64 x.f) (v := .bool true) (fun ρ h h2 _ => x_e2 h h2 e1) ?_
                  refine g_mv hn ?_
                  refine g_fd hn ?_
                  refine g_ld hn ?_
                  refine g_fd hn ?_
                  refine g_ld hn ?_
                  refine g_o2 hn (i := 163) (j := 165) (vi := .int .i64 y.b) (vj := .int .i64 x.b) (v := .bool true) (fun ρ h h2 _ => x_e2 h h2 e2) ?_
                  refine g_an hn ?_
                  refine fl_end ?_
                  clear hn
                  subst ha
                  dsimp only [fr, cnd, Act.put, cond_true]
                  simp only [List.setIfInBounds_toArray, List.set_cons_zero, List.set_cons_succ]
                  clear f0 f1 l0 l1 f2 f3 l2 l3 hY10
                  simp only [Bool.and_true]
                  have f2 := nfd2 w10 g2
                  have l2 : (Instr.loadAt 9 (.pointer (some ⟨g2, 2, none⟩))).run Tryd.prog w10 = .ok (.string (strL y.l)) w10 := lstr (hY2.cell 2)
                  go_upto_region 36 with fail
                  refine wp_region_lit ?_
                  refine fl_start ?_
                  generalize ha : Act.mk _ _ = a0
                  have hn : a0.tmps.size = 207 := by rw [← ha]; kernel_rfl
                  have h22 : (fr a0 []).eval (.tmp 22) = .pointer (some ⟨g2, 0, none⟩) := by rw [← ha]; kernel_rfl
                  refine fl_know hn rfl h22 ?_
                  clear h22
                  refine g_fd hn ?_
                  refine g_ld hn ?_
                  refine g_as hn ?_
                  refine fl_end ?_
                  clear hn
                  subst ha
                  dsimp only [fr, cnd, Act.put, cond_true]
                  simp only [List.setIfInBounds_toArray, List.set_cons_zero, List.set_cons_succ]
                  clear f2 l2 hY2
                  go_wp2_with fail
                  refine ⟨?_, ?_⟩
                  · first
                    | exact ⟨k4 + 1, by omega, by go_num, by rw [lastN_next F _ _ hy]; unfold stepN; rw [e1, e2]; rfl, hb10⟩
                    | repeat apply Exists.intro
                      refine ⟨?_, rfl⟩
                      exact ⟨k4 + 1, by omega, by go_num, by rw [lastN_next F _ _ hy]; unfold stepN; rw [e1, e2]; rfl, hb10⟩
                  · simp [intOf]; omega
              · have ek : k4 = n6 := by omega
                subst ek
                have i4 : ¬ ((k4 : Int) < (k4 : Int)) := by omega
                rw [List.take_of_length_le (show F.length ≤ k4 by omega)]
                have cv := conv_rd wr (some ⟨g5, 0, none⟩) 64 64 lv HH.out.2 (blk_rdb (HX.out wr hb9))
                rw [show (⟨lv.toArray⟩ : ByteArray) = strL lv from rfl] at cv
                go_upto_region 38 with fail
                refine wp_region_lit ?_
                refine fl_start ?_
                generalize ha : Act.mk _ _ = a0
                have hn : a0.tmps.size = 207 := by rw [← ha]; kernel_rfl
                have h18 : (fr a0 []).eval (.tmp 18) = .slice (some ⟨g5, 0, none⟩) 64 64 := by rw [← ha]; kernel_rfl
                refine fl_know hn rfl h18 ?_
                clear h18
                have h20 : (fr a0 [(18, true, .slice (some ⟨g5, 0, none⟩) 64 64)]).eval (.tmp 20) = .string (strL (lastN F x.f x.b)) := by rw [← ha]; kernel_rfl
                refine fl_know hn rfl h20 ?_
                clear h20
                refine g_mv hn ?_
                refine g_cv hn ?_
                refine g_mv hn ?_
                refine g_o2 hn (i := 172) (j := 173) (vi := .string (strL lv)) (vj := .string (strL (lastN F x.f x.b))) (v := .bool (decide (lv = lastN F x.f x.b))) (fun ρ h h2 _ => x_es h h2 rfl) ?_
                refine g_as hn ?_
                refine fl_end ?_
                clear hn
                subst ha
                dsimp only [fr, cnd, Act.put, cond_true]
                simp only [List.setIfInBounds_toArray, List.set_cons_zero, List.set_cons_succ]
                clear cv i4
                go_wp2_with fail
                go_loopw [23, 177] (fun u23 i wr => ∃ (k5 : Nat), k5 ≤ n7 ∧ i = .int .i64 k5 ∧ u23 = .bool (blkOk F (Q.take k5) lv x.f x.b) ∧ Below w8.heap.size w8 wr) (fun _ i _ => n7 - (intOf i).toNat)
                case atStart => exact ⟨0, Nat.zero_le _, rfl, by rw [List.take_zero, okQ_0], hb9⟩
                case round =>
                  clear hb9 hb9'
                  obtain ⟨k5, hk5, rfl, rfl, hb9⟩ := hrel
                  have hb9' : Below w5.heap.size w5 wr := hb8'.trans (hb9.mono hb8'.size)
                  by_cases hlt5 : k5 < n7
                  · obtain ⟨y, hy⟩ : ∃ y, Q[k5]? = some y := ⟨_, List.getElem?_eq_getElem (show k5 < Q.length by omega)⟩
                    obtain ⟨ad7, hA7, had7, hc⟩ := (HO7.out.keep hb9').rd k5 (noC y) (by rw [List.getElem?_map, hy]; rfl)
                    have i4 : (k5 : Int) < (n7 : Int) := by omega
                    have ix := nix wr ad7 n7 c7 k5 hlt5
                    have ld := nld hc
                    rw [hA7]
                    go_upto_region 41 with fail
                    refine wp_region_lit ?_
                    refine fl_start ?_
                    generalize ha : Act.mk _ _ = a0
                    have hn : a0.tmps.size = 207 := by rw [← ha]; kernel_rfl
                    have h175 : (fr a0 []).eval (.tmp 175) = .slice (some ad7) n7 c7 := by rw [← ha]; kernel_rfl
                    refine fl_know hn rfl h175 ?_
                    clear h175
                    have h177 : (fr a0 [(175, true, .slice (some ad7) n7 c7)]).eval (.tmp 177) = .int .i64 (k5 : Int) := by rw [← ha]; kernel_rfl
                    refine fl_know hn rfl h177 ?_
                    clear h177
                    refine g_ix hn ?_
                    refine g_ld hn ?_
                    refine al_row hn (alN wr) ?_
                    intro g2 wv hgv2 hYv hBv
                    refine g_str hYv ?_ (h1 := no_oneC y)
                    intro w10 ho hY2
                    refine fl_end ?_
                    clear hn
                    subst ha
                    dsimp only [fr, cnd, Act.put, cond_true]
                    simp only [List.setIfInBounds_toArray, List.set_cons_zero, List.set_cons_succ]
                    have hW10 : Below wr.heap.size wr w10 := hBv.trans (ho.below (by omega))
                    clear ix ld hc hYv hBv ho
                    have hb10 : Below w8.heap.size w8 w10 := hb9.trans (hW10.mono hb9.size)
                    have hY10 := HY.out w10 hb10
                    have cv := conv_rd w10 (some ⟨g5, 0, none⟩) 64 64 lv HH.out.2 (blk_rdb (HX.out w10 hb10))
                    rw [show (⟨lv.toArray⟩ : ByteArray) = strL lv from rfl] at cv
                    clear hW10 hb9 hb9'
                    have f0 := nfd0 w10 g2
                    have f1 := afd1 w10 g
                    have l0 : (Instr.loadAt 3 (.pointer (some ⟨g2, 0, none⟩))).run Tryd.prog w10 = .ok (.int .i64 y.f) w10 := load_int (hY2.cell 0)
                    have l1 : (Instr.loadAt 3 (.pointer (some ⟨g, 1, none⟩))).run Tryd.prog w10 = .ok (.int .i64 x.f) w10 := load_int (hY10.cell 1)
                    have f2 := nfd1 w10 g2
                    have f3 := afd2 w10 g
                    have l2 : (Instr.loadAt 3 (.pointer (some ⟨g2, 1, none⟩))).run Tryd.prog w10 = .ok (.int .i64 y.b) w10 := load_int (hY2.cell 1)
                    have l3 : (Instr.loadAt 3 (.pointer (some ⟨g, 2, none⟩))).run Tryd.prog w10 = .ok (.int .i64 x.b) w10 := load_int (hY10.cell 2)
                    have f4 := nfd2 w10 g2
                    have l4 : (Instr.loadAt 9 (.pointer (some ⟨g2, 2, none⟩))).run Tryd.prog w10 = .ok (.string (strL y.l)) w10 := lstr (hY2.cell 2)
                    clear hY2 hY10
                    cases hok : blkOk F (Q.take k5) lv x.f x.b with
                    | true =>
                      go_upto_region 42 with fail
                      refine wp_region_lit ?_
                      refine fl_start ?_
                      generalize ha : Act.mk _ _ = a0
                      have hn : a0.tmps.size = 207 := by rw [← ha]; kernel_rfl
                      have h17 : (fr a0 []).eval (.tmp 17) = .pointer (some ⟨g, 0, none⟩) := by rw [← ha]; kernel_rfl
                      refine fl_know hn rfl h17 ?_
                      clear h17
                      have h18 : (fr a0 [(17, true, .pointer (some ⟨g, 0, none⟩))]).eval (.tmp 18) = .slice (some ⟨g5, 0, none⟩) 64 64 := by rw [← ha]; kernel_rfl
                      refine fl_know hn rfl h18 ?_
                      clear h18
                      have h23 : (fr a0 [(18, true, .slice (some ⟨g5, 0, none⟩) 64 64), (17, true, .pointer (some ⟨g, 0, none⟩))]).eval (.tmp 23) = .bool true := by rw [← ha]; kernel_rfl
                      refine fl_know hn rfl h23 ?_
                      clear h23
                      have h25 : (fr a0 [(23, true, .bool true), (18, true, .slice (some ⟨g5, 0, none⟩) 64 64), (17, true, .pointer (some ⟨g, 0, none⟩))]).eval (.tmp 25) = .pointer (some ⟨g2, 0, none⟩) := by rw [← ha]; kernel_rfl
                      refine fl_know hn rfl h25 ?_
                      clear h25
                      refine g_mv hn ?_
                      refine g_mv hn ?_
                      refine g_offv .nilIface hn ?_
                      refine g_offv .nilIface hn ?_
                      refine g_offv .nilIface hn ?_
                      refine g_offv .nilIface hn ?_
                      refine g_offv (.bool false) hn ?_
                      refine g_offv (.bool false) hn ?_
                      refine g_offv .nilIface hn ?_
                      refine g_offv .nilIface hn ?_
                      refine g_offv .nilIface hn ?_
                      refine g_offv .nilIface hn ?_
                      refine g_offv (.bool false) hn ?_
                      refine g_offv (.bool false) hn ?_
                      refine g_offv (.bool false) hn ?_
                      refine g_offv .nilIface hn ?_
                      refine g_offv .nilIface hn ?_
                      refine g_offv .nilIface hn ?_
                      refine g_offv .nilIface hn ?_
                      refine g_offv (.bool false) hn ?_
                      refine g_offv (.bool false) hn ?_
                      refine g_or hn ?_
                      refine g_as hn ?_
                      refine fl_end ?_
                      clear hn
                      subst ha
                      dsimp only [fr, cnd, Act.put, cond_true]
                      simp only [List.setIfInBounds_toArray, List.set_cons_zero, List.set_cons_succ]
                      clear f0 f1 f2 f3 f4 l0 l1 l2 l3 l4 cv
                      go_wp2_with fail
                      refine ⟨?_, ?_⟩
                      · first
                        | exact ⟨k5 + 1, by omega, by go_num, by first | (rw [okQ_next hy, hok]; done) | (rw [okQ_next hy, hok]; rfl) | (rw [okQ_next hy, hok]; cases decide (y.l = lv) <;> rfl) | (rw [okQ_next hy, hok]; simp), hb10⟩
                        | repeat apply Exists.intro
                          refine ⟨?_, rfl⟩
                          exact ⟨k5 + 1, by omega, by go_num, by first | (rw [okQ_next hy, hok]; done) | (rw [okQ_next hy, hok]; rfl) | (rw [okQ_next hy, hok]; cases decide (y.l = lv) <;> rfl) | (rw [okQ_next hy, hok]; simp), hb10⟩
                      · simp [intOf]; omega
                    | false =>
                    cases e1 : (y.f == x.f) with
                    | false =>
                      go_upto_region 42 with fail
                      refine wp_region_lit ?_
                      refine fl_start ?_
                      generalize ha : Act.mk _ _ = a0
                      have hn : a0.tmps.size = 207 := by rw [← ha]; kernel_rfl
                      have h17 : (fr a0 []).eval (.tmp 17) = .pointer (some ⟨g, 0, none⟩) := by rw [← ha]; kernel_rfl
                      refine fl_know hn rfl h17 ?_
                      clear h17
                      have h18 : (fr a0 [(17, true, .pointer (some ⟨g, 0, none⟩))]).eval (.tmp 18) = .slice (some ⟨g5, 0, none⟩) 64 64 := by rw [← ha]; kernel_rfl
                      refine fl_know hn rfl h18 ?_
                      clear h18
                      have h23 : (fr a0 [(18, true, .slice (some ⟨g5, 0, none⟩) 64 64), (17, true, .pointer (some ⟨g, 0, none⟩))]).eval (.tmp 23) = .bool false := by rw [← ha]; kernel_rfl
                      refine fl_know hn rfl h23 ?_
                      clear h23
                      have h25 : (fr a0 [(23, true, .bool false), (18, true, .slice (some ⟨g5, 0, none⟩) 64 64), (17, true, .pointer (some ⟨g, 0, none⟩))]).eval (.tmp 25) = .pointer (some ⟨g2, 0, none⟩) := by rw [← ha]; kernel_rfl
                      refine fl_know hn rfl h25 ?_
                      clear h25
                      refine g_mv hn ?_
                      refine g_mv hn ?_
                      refine g_fd hn ?_
                      refine g_ld hn ?_
                      refine g_fd hn ?_
                      refine g_ld hn ?_
                      refine g_o2 hn (i := 184) (j := 186) (vi := .int .i64 y.f) (vj := .int .i64 x.f) (v := .bool false) (fun ρ h h2 _ => x_e2 h h2 e1) ?_
                      refine g_mv hn ?_
                      refine g_offv .nilIface hn ?_
                      refine g_offv .nilIface hn ?_
                      refine g_offv .nilIface hn ?_
                      refine g_offv .nilIface hn ?_
                      refine g_offv (.bool false) hn ?_
                      refine g_an hn ?_
                      refine g_mv hn ?_
                      refine g_offv .nilIface hn ?_
                      refine g_offv .nilIface hn ?_
                      refine g_offv .nilIface hn ?_
                      refine g_offv .nilIface hn ?_
                      refine g_offv (.bool false) hn ?_
                      refine g_an hn ?_
                      refine g_or hn ?_
                      refine g_as hn ?_
                      refine fl_end ?_
                      clear hn
                      subst ha
                      dsimp only [fr, cnd, Act.put, cond_true]
                      simp only [List.setIfInBounds_toArray, List.set_cons_zero, List.set_cons_succ]
                      clear f0 f1 f2 f3 f4 l0 l1 l2 l3 l4 cv
                      go_wp2_with fail
                      refine ⟨?_, ?_⟩
                      · first
                        | exact ⟨k5 + 1, by omega, by go_num, by first | (rw [okQ_next hy, hok, e1]; done) | (rw [okQ_next hy, hok, e1]; rfl) | (rw [okQ_next hy, hok, e1]; cases decide (y.l = lv) <;> rfl) | (rw [okQ_next hy, hok, e1]; simp), hb10⟩
                        | repeat apply Exists.intro
                          refine ⟨?_, rfl⟩
                          exact ⟨k5 + 1, by omega, by go_num, by first | (rw [okQ_next hy, hok, e1]; done) | (rw [okQ_next hy, hok, e1]; rfl) | (rw [okQ_next hy, hok, e1]; cases decide (y.l = lv) <;> rfl) | (rw [okQ_next hy, hok, e1]; simp), hb10⟩
                      · simp [intOf]; omega
                    | true =>
                    cases e2 : (y.b == x.b) with
                    | false =>
                      go_upto_region 42 with fail
                      refine wp_region_lit ?_
                      refine fl_start ?_
                      generalize ha : Act.mk _ _ = a0
                      have hn : a0.tmps.size = 207 := by rw [← ha]; kernel_rfl
                      have h17 : (fr a0 []).eval (.tmp 17) = .pointer (some ⟨g, 0, none⟩) := by rw [← ha]; kernel_rfl
                      refine fl_know hn rfl h17 ?_
                      clear h17
                      have h18 : (fr a0 [(17, true, .pointer (some ⟨g, 0, none⟩))]).eval (.tmp 18) = .slice (some ⟨g5, 0, none⟩) 64 64 := by rw [← ha]; kernel_rfl
                      refine fl_know hn rfl h18 ?_
                      clear h18
                      have h23 : (fr a0 [(18, true, .slice (some ⟨g5, 0, none⟩) 64 64), (17, true, .pointer (some ⟨g, 0, none⟩))]).eval (.tmp 23) = .bool false := by rw [← ha]; kernel_rfl
                      refine fl_know hn rfl h23 ?_
                      clear h23
                      have h25 : (fr a0 [(23, true, .bool false), (18, true, .slice (some ⟨g5, 0, none⟩) 64 64), (17, true, .pointer (some ⟨g, 0, none⟩))]).eval (.tmp 25) = .pointer (some ⟨g2, 0, none⟩) := by rw [← ha]; kernel_rfl
                      refine fl_know hn rfl h25 ?_
                      clear h25
                      refine g_mv hn ?_
                      refine g_mv hn ?_
                      refine g_fd hn ?_
                      refine g_ld hn ?_
                      refine g_fd hn ?_
                      refine g_ld hn ?_
                      refine g_o2 hn (i := 184) (j := 186) (vi := .int .i64 y.f) (vj := .int .i64 x.f) (v := .bool true) (fun ρ h h2 _ => x_e2 h h2 e1) ?_
                      refine g_mv hn ?_
                      refine g_fd hn ?_
                      refine g_ld hn ?_
                      refine g_fd hn ?_
                      refine g_ld hn ?_
                      refine g_o2 hn (i := 190) (j := 192) (vi := .int .i64 y.b) (vj := .int .i64 x.b) (v := .bool false) (fun ρ h h2 _ => x_e2 h h2 e2) ?_
                      refine g_an hn ?_
                      refine g_mv hn ?_
                      refine g_offv .nilIface hn ?_
                      refine g_offv .nilIface hn ?_
                      refine g_offv .nilIface hn ?_
                      refine g_offv .nilIface hn ?_
                      refine g_offv (.bool false) hn ?_
                      refine g_an hn ?_
                      refine g_or hn ?_
                      refine g_as hn ?_
                      refine fl_end ?_
                      clear hn
                      subst ha
                      dsimp only [fr, cnd, Act.put, cond_true]
                      simp only [List.setIfInBounds_toArray, List.set_cons_zero, List.set_cons_succ]
                      clear f0 f1 f2 f3 f4 l0 l1 l2 l3 l4 cv
                      go_wp2_with fail
                      refine ⟨?_, ?_⟩
                      · first
                        | exact ⟨k5 + 1, by omega, by go_num, by first | (rw [okQ_next hy, hok, e1, e2]; done) | (rw [okQ_next hy, hok, e1, e2]; rfl) | (rw [okQ_next hy, hok, e1, e2]; cases decide (y.l = lv) <;> rfl) | (rw [okQ_next hy, hok, e1, e2]; simp), hb10⟩
                        | repeat apply Exists.intro
                          refine ⟨?_, rfl⟩
                          exact ⟨k5 + 1, by omega, by go_num, by first | (rw [okQ_next hy, hok, e1, e2]; done) | (rw [okQ_next hy, hok, e1, e2]; rfl) | (rw [okQ_next hy, hok, e1, e2]; cases decide (y.l = lv) <;> rfl) | (rw [okQ_next hy, hok, e1, e2]; simp), hb10⟩
                      · simp [intOf]; omega
                    | true =>
                      go_upto_region 42 with fail
                      refine wp_region_lit ?_
                      refine fl_start ?_
                      generalize ha : Act.mk _ _ = a0
                      have hn : a0.tmps.size = 207 := by rw [← ha]; kernel_rfl
                      have h17 : (fr a0 []).eval (.tmp 17) = .pointer (some ⟨g, 0, none⟩) := by rw [← ha]; kernel_rfl
                      refine fl_know hn rfl h17 ?_
                      clear h17
                      have h18 : (fr a0 [(17, true, .pointer (some ⟨g, 0, none⟩))]).eval (.tmp 18) = .slice (some ⟨g5, 0, none⟩) 64 64 := by rw [← ha]; kernel_rfl
                      refine fl_know hn rfl h18 ?_
                      clear h18
                      have h23 : (fr a0 [(18, true, .slice (some ⟨g5, 0, none⟩) 64 64), (17, true, .pointer (some ⟨g, 0, none⟩))]).eval (.tmp 23) = .bool false := by rw [← ha]; kernel_rfl
                      refine fl_know hn rfl h23 ?_
                      clear h23
                      have h25 : (fr a0 [(23, true, .bool false), (18, true, .slice (some ⟨g5, 0, none⟩) 64 64), (17, true, .pointer (some ⟨g, 0, none⟩))]).eval (.tmp 25) = .pointer (some ⟨g2, 0, none⟩) := by rw [← ha]; kernel_rfl
                      refine fl_know hn rfl h25 ?_
                      clear h25
                      refine g_mv hn ?_
                      refine g_mv hn ?_
                      refine g_fd hn ?_
                      refine g_ld hn ?_
                      refine g_fd hn ?_
                      refine g_ld hn ?_
                      refine g_o2 hn (i := 184) (j := 186) (vi := .int .i64 y.f) (vj := .int .i64 x.f) (v := .bool true) (fun ρ h h2 _ => x_e2 h h2 e1) ?_
                      refine g_mv hn ?_
                      refine g_fd hn ?_
                      refine g_ld hn ?_
                      refine g_fd hn ?_
                      refine g_ld hn ?_
                      refine g_o2 hn (i := 190) (j := 192) (vi := .int .i64 y.b) (vj := .int .i64 x.b) (v := .bool true) (fun ρ h h2 _ => x_e2 h h2 e2) ?_
                      refine g_an hn ?_
                      refine g_mv hn ?_
                      refine g_fd hn ?_
                      refine g_ld hn ?_
                      refine g_mv hn ?_
                      refine g_cv hn ?_
                      refine g_o2 hn (i := 197) (j := 199) (vi := .string (strL y.l)) (vj := .string (strL lv)) (v := .bool (decide (y.l = lv))) (fun ρ h h2 _ => x_es h h2 rfl) ?_
                      refine g_an hn ?_
                      refine g_or hn ?_
                      refine g_as hn ?_
                      refine fl_end ?_
                      clear hn
                      subst ha
                      dsimp only [fr, cnd, Act.put, cond_true]
                      simp only [List.setIfInBounds_toArray, List.set_cons_zero, List.set_cons_succ]
                      clear f0 f1 f2 f3 f4 l0 l1 l2 l3 l4 cv
                      go_wp2_with fail
                      refine ⟨?_, ?_⟩
                      · first
                        | exact ⟨k5 + 1, by omega, by go_num, by first | (rw [okQ_next hy, hok, e1, e2]; done) | (rw [okQ_next hy, hok, e1, e2]; rfl) | (rw [okQ_next hy, hok, e1, e2]; cases decide (y.l = lv) <;> rfl) | (rw [okQ_next hy, hok, e1, e2]; simp), hb10⟩
                        | repeat apply Exists.intro
                          refine ⟨?_, rfl⟩
                          exact ⟨k5 + 1, by omega, by go_num, by first | (rw [okQ_next hy, hok, e1, e2]; done) | (rw [okQ_next hy, hok, e1, e2]; rfl) | (rw [okQ_next hy, hok, e1, e2]; cases decide (y.l = lv) <;> rfl) | (rw [okQ_next hy, hok, e1, e2]; simp), hb10⟩
                      · simp [intOf]; omega
                  · have ek : k5 = n7 := by omega
                    subst ek
                    have i4 : ¬ ((k5 : Int) < (k5 : Int)) := by omega
                    rw [List.take_of_length_le (show Q.length ≤ k5 by omega), HH.out.1]
                    clear HH HX HY hb8' hb9 i4
                    go_wp2_with fail
                    refine ⟨?_, ?_⟩
                    · first
                      | exact ⟨k3 + 1, by omega, by go_num, hb9'⟩
                      | repeat apply Exists.intro
                        refine ⟨?_, rfl⟩
                        exact ⟨k3 + 1, by omega, by go_num, hb9'⟩
                    · simp [intOf]; omega
        · have i3 : ¬ ((k3 : Int) < (n : Int)) := by omega
          have hBe : Below B w wr := hB5.trans (hb.mono hBs)
          clear HN HR HR5 HO6 HO7 HKI hb hB5
          go_wp2_with fail
          go_ret
          exact ⟨rfl, hBe⟩
end Go.Proofs.YtgbopikhdpmmcaaDoor
