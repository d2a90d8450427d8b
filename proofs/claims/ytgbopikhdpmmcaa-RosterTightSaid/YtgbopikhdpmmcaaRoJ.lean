/-
  WHAT IS PROVED: the law RosterTight returns true. Conditions: those typed in each theorem.
-/
import Derived.Test.YtgbopikhdpmmcaaRoG
import Derived.Test.YtgbopikhdpmmcaaRoI
namespace Go.Proofs.Ytgbopikhdpmmcaa
open Go.RowKit

/-- What holds behind each write that was asked: K are those known, N the lasts. -/
structure TgI (l : List Int) (K : List Wr) (N : List Int) : Prop where
  eq : N = ofL l K
  len : N.length = 12
  ok : (tst K).1 = true
  last : ∀ d : Nat, d < 12 → ∀ a, (tst K).2 d = some a → a = gI N d
  has : ∀ d : Nat, d < 12 → ∀ q : Int, gI l d < q → q ≤ gI N d → ∃ y, y ∈ K ∧ y.dev = (d : Int) ∧ y.seq = q
  low : ∀ y, y ∈ K → ∃ d : Nat, d < 12 ∧ y.dev = (d : Int) ∧ y.seq ≤ gI N d
  sml : ∀ j, 0 ≤ gI N j ∧ gI N j ≤ 40
  good : ∀ y, y ∈ K → y.good = true
theorem tgI_0 {l : List Int} (hl : l.length = 12) (hs : ∀ j, 0 ≤ gI l j ∧ gI l j ≤ 40) : TgI l [] l :=
  ⟨rfl, hl, rfl, (fun d _ a h => nomatch h), (fun d _ q h1 h2 => (by omega)), (fun y hy => nomatch hy), hs, (fun y hy => nomatch hy)⟩
theorem gI_set' {l : List Int} {j k : Nat} {v : Int} (hj : j < l.length) : gI (l.set j v) k = if j = k then v else gI l k := by
  by_cases hk : k < l.length
  · exact gI_set hk
  · rw [if_neg (by omega)]
    unfold gI
    rw [List.getElem?_set, if_neg (by omega)]
theorem TgI.next {l : List Int} {K : List Wr} {N : List Int} (h : TgI l K N) {x : Wr} {d : Nat} (hd : d < 12) (e : x.dev = (d : Int)) (hq : x.seq = gI N d + 1) (hx : x.seq ≤ 40) (hgx : x.good = true) : TgI l (K ++ [x]) (ofS N x) ∧ gI (ofS N x) d = gI N d + 1 := by
  have hN : ofS N x = N.set d (gI N d + 1) := by rw [ofS_yes hd e, hq, show max (gI N d) (gI N d + 1) = gI N d + 1 by omega]
  have hg : ∀ k, gI (ofS N x) k = if d = k then gI N d + 1 else gI N k := fun k => by rw [hN, gI_set' (by rw [h.len]; exact hd)]
  have ht : tst (K ++ [x]) = tstep (tst K) x := by unfold tst; rw [List.foldl_append]; rfl
  have hsd := h.sml d
  refine ⟨⟨?_, ofS_len h.len x, ?_, ?_, ?_, ?_, ?_, ?_⟩, by rw [hg, if_pos rfl]⟩
  · unfold ofL
    rw [List.foldl_append, ← show ofL l K = K.foldl ofS l from rfl, ← h.eq]
    rfl
  · rw [ht]
    unfold tstep
    show ((tst K).1 && okT ((tst K).2 x.dev) x.seq) = true
    rw [h.ok, Bool.true_and, e]
    cases hl : (tst K).2 (d : Int) with
    | none => rfl
    | some a =>
      have ea := h.last d hd a hl
      subst ea
      show (decide (gI N d < x.seq) && (IntKind.i64.wrap (gI N d + 1) == x.seq)) = true
      have wr : IntKind.i64.wrap (gI N d + 1) = gI N d + 1 := by
        generalize gI N d = y at hsd ⊢
        unfold IntKind.wrap
        simp [IntKind.bits, IntKind.signed]
        omega
      rw [wr, hq]
      simp
      omega
  · intro k hk a ha
    rw [ht] at ha
    unfold tstep at ha
    dsimp only at ha
    rw [hg]
    by_cases hkd : d = k
    · subst hkd
      rw [if_pos e.symm] at ha
      injection ha with ha
      rw [if_pos rfl, ← ha, hq]
    · rw [if_neg (by rw [e]; omega)] at ha
      rw [if_neg hkd]
      exact h.last k hk a ha
  · intro k hk q h1 h2
    rw [hg] at h2
    by_cases hkd : d = k
    · subst hkd
      rw [if_pos rfl] at h2
      by_cases h3 : q ≤ gI N d
      · obtain ⟨y, hy, h4⟩ := h.has d hd q h1 h3
        exact ⟨y, List.mem_append_left _ hy, h4⟩
      · exact ⟨x, by simp, e, by omega⟩
    · rw [if_neg hkd] at h2
      obtain ⟨y, hy, h4⟩ := h.has k hk q h1 h2
      exact ⟨y, List.mem_append_left _ hy, h4⟩
  · intro y hy
    rcases List.mem_append.1 hy with hy | hy
    · obtain ⟨k, hk, h1, h2⟩ := h.low y hy
      refine ⟨k, hk, h1, ?_⟩
      rw [hg]
      by_cases hkd : d = k
      · subst hkd; rw [if_pos rfl]; omega
      · rw [if_neg hkd]; exact h2
    · have ey : y = x := by simpa using hy
      subst ey
      exact ⟨d, hd, e, by rw [hg, if_pos rfl]; omega⟩
  · intro j
    rw [hg]
    have := h.sml j
    split <;> omega
  · intro y hy
    rcases List.mem_append.1 hy with hy | hy
    · exact h.good y hy
    · rw [show y = x by simpa using hy]
      exact hgx
theorem TgI.smlS {l : List Int} {K : List Wr} {N : List Int} (h : TgI l K N) : Sml N := ⟨h.len, fun j => by have := h.sml j; omega⟩
theorem isId_iff {d q : Int} {x : Wr} : isId d q x = true ↔ x.dev = d ∧ x.seq = q := by
  unfold isId
  rw [Bool.and_eq_true, beq_iff_eq, beq_iff_eq]
theorem findGo_neg (p : Wr → Bool) : ∀ (ws : List Wr) (i : Int), 0 ≤ i → (findGo p i ws < 0 ↔ ∀ x, x ∈ ws → p x = false)
  | [], i, _ => by simp [findGo]
  | a :: r, i, hi => by
    unfold findGo
    have ih := findGo_neg p r (i + 1) (by omega)
    cases ha : p a with
    | true =>
      constructor
      · intro h
        have h2 : i < 0 := h
        omega
      · intro h
        have := h a (List.mem_cons_self ..)
        rw [ha] at this
        cases this
    | false =>
      show findGo p (i + 1) r < 0 ↔ _
      rw [ih]
      constructor
      · intro h x hx
        rcases List.mem_cons.1 hx with e | hx
        · rw [e]; exact ha
        · exact h x hx
      · intro h x hx
        exact h x (List.mem_cons_of_mem _ hx)
theorem ask_cases {N : List Int} {d : Nat} (hd : d < 12) (q : Int) : (askI N d q = 0 ∧ q = gI N d + 1) ∨ (askI N d q = 6 ∧ q ≤ gI N d) ∨ (askI N d q = 15 ∧ gI N d + 1 < q) := by
  have e : lastI N d = gI N d := by
    unfold lastI nodeB
    rw [decide_eq_true (by omega), decide_eq_true (by omega), Int.toNat_natCast]
    rfl
  unfold askI
  rw [e]
  by_cases h1 : q ≤ gI N d
  · right; left
    rw [decide_eq_true h1]
    exact ⟨rfl, h1⟩
  · by_cases h2 : gI N d + 1 < q
    · right; right
      rw [decide_eq_false h1, decide_eq_true h2]
      exact ⟨rfl, h2⟩
    · left
      rw [decide_eq_false h1, decide_eq_false h2]
      exact ⟨rfl, by omega⟩
theorem TgI.old {l : List Int} {K : List Wr} {N : List Int} (h : TgI l K N) {d : Nat} (hd : d < 12) {q : Int} (hq : q ≤ gI N d) : (decide (findZ (d : Int) q K < 0) && decide (gI l d < q)) = false := by
  by_cases h1 : gI l d < q
  · obtain ⟨y, hy, e1, e2⟩ := h.has d hd q h1 hq
    rw [decide_eq_false, Bool.false_and]
    intro hf
    have := (findGo_neg (isId (d : Int) q) K 0 (Int.le_refl _)).1 hf y hy
    rw [isId_iff.2 ⟨e1, e2⟩] at this
    cases this
  · rw [decide_eq_false h1, Bool.and_false]
theorem TgI.ahead {l : List Int} {K : List Wr} {N : List Int} (h : TgI l K N) {d : Nat} {q : Int} (hq : gI N d + 1 < q) : decide (0 ≤ findZ (d : Int) q K) = false := by
  rw [decide_eq_false]
  have : findZ (d : Int) q K < 0 := by
    refine (findGo_neg (isId (d : Int) q) K 0 (Int.le_refl _)).2 fun y hy => ?_
    obtain ⟨k, hk, e1, e2⟩ := h.low y hy
    cases hi : isId (d : Int) q y with
    | false => rfl
    | true =>
      obtain ⟨e3, e4⟩ := isId_iff.1 hi
      have : k = d := by omega
      subst this
      omega
  omega
theorem TgI.none {l : List Int} {K : List Wr} {N : List Int} (h : TgI l K N) : leftL N K = [] := by
  unfold leftL
  rw [List.filter_eq_nil_iff]
  intro y hy
  obtain ⟨k, hk, e1, e2⟩ := h.low y hy
  unfold notOld
  rw [e1]
  rcases ask_cases hk y.seq (N := N) with ⟨_, h2⟩ | ⟨h1, _⟩ | ⟨_, h2⟩
  · omega
  · rw [h1]
    simp
  · omega
theorem glaB_40 {x : List Int} (hx : x.length = 12) (h : glaB x = true) : ∀ j, 0 ≤ gI x j ∧ gI x j ≤ 40 := fun j => by
  unfold glaB at h
  rw [Bool.and_eq_true, glaB_iff] at h
  by_cases hj : j < 12
  · exact h.1 j hj
  · unfold gI
    rw [List.getElem?_eq_none (by omega)]
    exact ⟨Int.le_refl _, show (0 : Int) ≤ 40 by decide⟩
theorem good_id {x : Wr} (h : x.good = true) : ∃ d : Nat, d < 12 ∧ x.dev = (d : Int) ∧ 1 ≤ x.seq ∧ x.seq ≤ 40 := by
  unfold Wr.good wrGoodB at h
  rw [Bool.and_eq_true] at h
  have h1 := of_decide_eq_true (show decide _ = true from h.1)
  exact ⟨x.dev.toNat, by omega, by omega, by omega, by omega⟩
set_option maxRecDepth 100000 in
set_option maxHeartbeats 4000000 in
theorem lawTight_all (l : List Int) (A : Option Addr) (n c : Nat) (ws : List Wr) (w : World) (hl : l.length = 12) (hn0 : ws.length = n) (hr : RdW w.heap.size w A ws) (hm : n ≤ maxLen) (hf : ∀ x, x ∈ ws → x.fits) :
    Calls Try.prog 5 #[.agg (liA l), .slice A n c] w fun e w' => e = .returned (.bool true) ∧ Below w.heap.size w w' := by
  have HN := Lib.hid hn0
  have HF := Lib.hid hf
  have hrW := Lib.hid (fun W hb => (hr.keep (C := w.heap.size) (W' := W) hb (Nat.le_refl _)))
  clear hf
  have hX0 := blk_new w (liA l) 23
  have hB := b0 w (.cells (liA l) 23)
  have hzz : (w.alloc (.cells (liA l) 23)).heap.size = w.heap.size + 1 := by simp
  go_enter Try.func5, Try.ntmps5
  go_upto_region 1 with fail
  generalize (w.alloc (.cells (liA l) 23)) = W0 at hX0 hB hzz ⊢
  generalize hb : w.heap.size = b at hX0 hB hzz ⊢
  have hR0 : RdW W0.heap.size W0 A ws := (hrW.out W0 (by rw [hb]; exact hB)).more (by omega)
  have HR := Lib.hid (fun W (h : Kp W0 W) => hR0.keep (W' := W) h (Nat.le_refl _))
  have l1 : ∀ W, Kp W0 W → (Instr.loadAt 23 (.pointer (some ⟨b, 0, none⟩))).run Try.prog W = .ok (.agg (liA l)) W := fun W h => ld_liL (h.blk hX0) hl
  have c0 : ∀ W, Kp W0 W → _ := kp_c fun W _ => awake13_any W
  have c1 : ∀ W, Kp W0 W → _ := kp_c fun W _ => refGL_any l W hl
  have c2 : ∀ W, Kp W0 W → _ := kp_c fun W h => refGoodAll_any A n c ws W HN.out (HR.out W h) h.size hm HF.out
  refine wp_region_lit ?_
  refine fs_start (Kp W0) (Kp.refl _) ?_
  generalize ha : Act.mk _ _ = a0
  have hn : a0.tmps.size = 104 := by rw [← ha]; kernel_rfl
  have h1 : (fr a0 []).eval (.tmp 1) = .slice A n c := by rw [← ha]; kernel_rfl
  refine fs_know hn rfl h1 ?_
  clear h1
  have h2 : (fr a0 [(1, true, .slice A n c)]).eval (.tmp 2) = .pointer (some ⟨b, 0, none⟩) := by rw [← ha]; kernel_rfl
  refine fs_know hn rfl h2 ?_
  clear h2
  refine s_call hn ?_ (he := en_spinney_spinneylaw13_awake)
  refine s_nt hn ?_
  refine s_mv hn ?_
  refine s_ld hn ?_
  refine s_callt hn ?_ (he := en_spinney_spinneyref07_GoodLasts)
  refine s_nt hn ?_
  refine s_or hn ?_
  refine s_mv hn ?_
  refine s_mv hn ?_
  refine s_callt hn ?_ (he := en_spinney_spinneyref03_GoodAll)
  refine s_nt hn ?_
  refine s_or hn ?_
  refine s_mv hn ?_
  refine s_mv hn ?_
  refine s_ln hn ?_
  refine s_gtr hn ?_
  refine s_or hn ?_
  refine fs_end (fun w2 hS => ?_)
  clear hn
  subst ha
  dsimp only [fr, cnd, Act.put, cond_true]
  simp only [List.setIfInBounds_toArray, List.set_cons_zero, List.set_cons_succ]
  cases hg : (((!true || !glaB l) || !goodAll ws) || decide ((100 : Int) < (n : Int))) with
  | true =>
    clear hg
    go_upto_region 2 with fail
    refine wp_region_lit ?_
    refine fs_start (Kp W0) (hS) ?_
    generalize ha : Act.mk _ _ = a0
    have hn : a0.tmps.size = 104 := by rw [← ha]; kernel_rfl
    refine s_call hn ?_ (he := en_spinney_spinneylaw13_awake)
    refine s_as hn ?_
    refine fs_end (fun w3 hS3 => ?_)
    clear hn
    subst ha
    dsimp only [fr, cnd, Act.put, cond_true]
    simp only [List.setIfInBounds_toArray, List.set_cons_zero, List.set_cons_succ]
    have hB3 : Below b w w3 := hB.trans (hS3.below.mono (by omega))
    clear l1 c0 c1 c2 hX0 hS hS3 hB
    go_wp2_with fail
    go_ret
    exact ⟨rfl, by first | exact hB3 | (rw [hb]; exact hB3)⟩
  | false =>
  obtain ⟨hgl, hga, hn2⟩ : glaB l = true ∧ goodAll ws = true ∧ n ≤ 100 := by
    simp only [Bool.or_eq_false_iff, Bool.not_eq_false', decide_eq_false_iff_not] at hg
    exact ⟨hg.1.1.2, hg.1.2, by have := hg.2; omega⟩
  clear hg c0 c1 c2
  have hgood : ∀ x, x ∈ ws → x.good = true := fun x hx => List.all_eq_true.1 hga x hx
  have HT0 := Lib.hid (tgI_0 hl (glaB_40 hl hgl))
  clear hgl hga
  have l0 := l1 w2 hS
  go_upto_region 4 with fail
  refine wp_region_lit ?_
  refine fl_start ?_
  generalize ha : Act.mk _ _ = a0
  have hn : a0.tmps.size = 104 := by rw [← ha]; kernel_rfl
  have h2 : (fr a0 []).eval (.tmp 2) = .pointer (some ⟨b, 0, none⟩) := by rw [← ha]; kernel_rfl
  refine fl_know hn rfl h2 ?_
  clear h2
  refine g_ld hn ?_
  refine al_row hn (alL w2) ?_
  intro p6 w3 hg6 hX3 hB3
  refine g_str hX3 ?_ (hs := by rw [li_size, hl]; rfl) (hi := by rw [li_size, hl]; kernel_rfl) (h1 := li_one _)
  intro w4 ho hX4
  refine fl_end ?_
  clear hn
  subst ha
  dsimp only [fr, cnd, Act.put, cond_true]
  simp only [List.setIfInBounds_toArray, List.set_cons_zero, List.set_cons_succ]
  have hY : Kp W0 w4 := Below.trans (hS.trans hB3) (ho.below (by have := hS.below.size; omega))
  have hX04 := hY.blk hX0
  have hB4 : Below b w w4 := hB.trans (hY.below.mono (by omega))
  have hR4 : RdW W0.heap.size w4 A ws := HR.out w4 hY
  have hz4 : W0.heap.size ≤ w4.heap.size := hY.below.size
  have hbp : b < p6 := by have := hS.below.size; omega
  clear hX3 hB3 ho l0 hS l1 HR hR0 hrW hX0 hB hY
  have hp6 : p6 < w4.heap.size := hX4.lt
  have HR := Lib.hid (fun W (h : Below p6 w4 W) => hR4.keep (W' := W) h (by omega))
  clear hR4
  have hO0 := OwnX.nil tWr 10 w4.heap.size w4
  generalize hB1 : w4.heap.size = B1 at hO0 hp6 hz4
  go_wp2_with fail
  go_loopw [5, 31] (fun u5 i wr => ∃ (k : Nat) (A5 : Option Addr) (n5 c5 : Nat) (K : List Wr) (N : List Int), k ≤ n ∧ i = .int .i64 k ∧ u5 = .slice A5 n5 c5 ∧ Hid (OwnX tWr 10 B1 wr A5 n5 c5 (K.map Wr.cells)) ∧ Blk wr b (liA l) 23 ∧ Blk wr p6 (liA N) 23 ∧ Below p6 w4 wr ∧ B1 ≤ wr.heap.size ∧ Hid (TgI l K N) ∧ K.length ≤ k) (fun _ i _ => n - (intOf i).toNat)
  case atStart => exact ⟨0, none, 0, 0, [], l, Nat.zero_le _, rfl, rfl, hO0, hX04, hX4, Below.refl _ _, by omega, HT0.out, Nat.le_refl _⟩
  case round =>
    clear hX04 hX4 hO0
    obtain ⟨k, A5, n5, c5, K, N, hk, rfl, rfl, hO, hX0, hX6, hB, hz, hT, hkl⟩ := hrel
    have hn5 : K.length = n5 := by have := hO.out.len; rwa [List.length_map] at this
    by_cases hlt : k < n
    · obtain ⟨x, hx⟩ : ∃ x, ws[k]? = some x := ⟨_, List.getElem?_eq_getElem (show k < ws.length by have := HN.out; omega)⟩
      obtain ⟨ad, rfl, hadb, hc⟩ := HR.out wr hB k x hx
      have hgx := hgood x (List.mem_of_getElem? hx)
      obtain ⟨d, hd, ed, hq1, hq2⟩ := good_id hgx
      clear hx
      have i2 : (k : Int) < (n : Int) := by omega
      have ix := wix wr ad n c k hlt
      have ld := wld hc
      go_upto_region 7 with fail
      refine wp_region_lit ?_
      refine fl_start ?_
      generalize ha : Act.mk _ _ = a0
      have hn : a0.tmps.size = 104 := by rw [← ha]; kernel_rfl
      have h29 : (fr a0 []).eval (.tmp 29) = .slice (some ad) n c := by rw [← ha]; kernel_rfl
      refine fl_know hn rfl h29 ?_
      clear h29
      have h31 : (fr a0 [(29, true, .slice (some ad) n c)]).eval (.tmp 31) = .int .i64 (k : Int) := by rw [← ha]; kernel_rfl
      refine fl_know hn rfl h31 ?_
      clear h31
      refine g_ix hn ?_
      refine g_ld hn ?_
      refine al_row hn (alW wr) ?_
      intro g w3 hg hY3 hB3
      refine g_str hY3 ?_ (h1 := wr_oneC x)
      intro w5 ho hY5
      refine fl_end ?_
      clear hn
      subst ha
      dsimp only [fr, cnd, Act.put, cond_true]
      simp only [List.setIfInBounds_toArray, List.set_cons_zero, List.set_cons_succ]
      have hW5 : Below wr.heap.size wr w5 := hB3.trans (ho.below (by omega))
      have hO5 := hO.out.keep hW5
      have hX05 := hX0.keep hW5
      have hX65 := hX6.keep hW5
      have hB5 : Below p6 w4 w5 := hB.trans (hW5.mono (by have := hX6.lt; omega))
      have hz5 : B1 ≤ w5.heap.size := by have := hW5.size; omega
      have hgB : B1 ≤ g := by omega
      have hgA : ∀ a, A5 = some a → a.block ≠ g := fun a ha => by have := hO.out.blkLt a ha; omega
      clear ix ld hc hY3 hB3 ho hW5 hX0 hX6 hB hz hO
      have hsN := hT.out.smlS
      have lN : ∀ W, Kp w5 W → (Instr.loadAt 23 (.pointer (some ⟨p6, 0, none⟩))).run Try.prog W = .ok (.agg (liA N)) W := fun W h => ld_liL (h.blk hX65) hsN.1
      have f0 : ∀ W, Kp w5 W → _ := fun W _ => wfd0 W ⟨g, 0, none⟩
      have li : ∀ W, Kp w5 W → (Instr.loadAt 26 (.pointer (some ⟨g, 0, none⟩))).run Try.prog W = .ok (.agg #[.int .i64 (d : Int), .int .i64 x.seq]) W := fun W h => ild (((h.blk hY5).cell 0).trans (by rw [← ed]; rfl)) ((h.blk hY5).cell 1)
      have cA : ∀ W, Kp w5 W → _ := kp_c fun W _ => ask_any N d x.seq W hsN
      go_upto_region 8 with fail
      refine wp_region_lit ?_
      refine fs_start (Kp w5) (Kp.refl _) ?_
      generalize ha : Act.mk _ _ = a0
      have hn : a0.tmps.size = 104 := by rw [← ha]; kernel_rfl
      have h6 : (fr a0 []).eval (.tmp 6) = .pointer (some ⟨p6, 0, none⟩) := by rw [← ha]; kernel_rfl
      refine fs_know hn rfl h6 ?_
      clear h6
      have h8 : (fr a0 [(6, true, .pointer (some ⟨p6, 0, none⟩))]).eval (.tmp 8) = .pointer (some ⟨g, 0, none⟩) := by rw [← ha]; kernel_rfl
      refine fs_know hn rfl h8 ?_
      clear h8
      refine s_ld hn ?_
      refine s_fd hn ?_
      refine s_ld hn ?_
      refine s_calltt hn ?_ (he := en_spinney_roster_Ask)
      refine fs_end (fun w6 hS => ?_)
      clear hn
      subst ha
      dsimp only [fr, cnd, Act.put, cond_true]
      simp only [List.setIfInBounds_toArray, List.set_cons_zero, List.set_cons_succ]
      have hO6 := hO5.keep hS
      have hX06 := hS.blk hX05
      have hX66 := hS.blk hX65
      have hY6 := hS.blk hY5
      have hB6 : Below p6 w4 w6 := hB5.trans (hS.below.mono (by have := hX65.lt; omega))
      have hz6 : B1 ≤ w6.heap.size := by have := hS.below.size; omega
      clear lN f0 li cA hO5 hX05 hX65 hY5 hB5 hz5 hS
      rcases ask_cases (N := N) hd x.seq with ⟨hv, hq⟩ | ⟨hv, hq⟩ | ⟨hv, hq⟩
      · rw [hv]
        clear hv
        obtain ⟨hT2, hgN⟩ := hT.out.next hd ed hq hq2 hgx
        replace hT2 := Lib.hid hT2
        have lY := wld_blk hY6
        go_upto_region 11 with fail
        refine wp_region_lit ?_
        refine fl_start ?_
        generalize ha : Act.mk _ _ = a0
        have hn : a0.tmps.size = 104 := by rw [← ha]; kernel_rfl
        have h5 : (fr a0 []).eval (.tmp 5) = .slice A5 n5 c5 := by rw [← ha]; kernel_rfl
        refine fl_know hn rfl h5 ?_
        clear h5
        have h8 : (fr a0 [(5, true, .slice A5 n5 c5)]).eval (.tmp 8) = .pointer (some ⟨g, 0, none⟩) := by rw [← ha]; kernel_rfl
        refine fl_know hn rfl h8 ?_
        clear h8
        refine g_mv hn ?_
        refine g_ld hn ?_
        refine g_bs1 hn ?_
        intro g7 w7 hg7 hY7 hB7
        have hO7 := hO6.keep hB7
        refine g_apW (m := 1) (n := n5) (base := B1) hn hO7 (blk_rdw hY7) rfl (by omega) (by have := hB7.size; omega) (.inr (by omega)) ?_
        rintro v8 w8 ⟨A8, c8, rfl, hO8, hB8, _, hk8⟩
        refine g_as hn ?_
        refine fl_end ?_
        clear hn
        subst ha
        dsimp only [fr, cnd, Act.put, cond_true]
        simp only [List.setIfInBounds_toArray, List.set_cons_zero, List.set_cons_succ]
        have hX08 := (hX06.keep hB7).keep' hB8 (by omega)
        have hX68 := (hX66.keep hB7).keep' hB8 (by omega)
        have hY8 : Blk w8 g x.cells 51 := (hk8 g (by have := hY6.lt; have := hB7.size; omega) hgA).trans (hY6.keep hB7)
        have hB8' : Below p6 w4 w8 := (hB6.trans (hB7.mono (by omega))).trans (hB8.mono (by omega))
        have hz8 : B1 ≤ w8.heap.size := by have := hB7.size; have := hB8.size; omega
        clear lY hO6 hX06 hX66 hY6 hB6 hz6 hY7 hB7 hO7 hB8 hk8
        have lN := ld_liL hX68 hsN.1
        have lY := wld_blk hY8
        go_upto_region 12 with fail
        refine wp_region_lit ?_
        refine fl_start ?_
        generalize ha : Act.mk _ _ = a0
        have hn : a0.tmps.size = 104 := by rw [← ha]; kernel_rfl
        have h6 : (fr a0 []).eval (.tmp 6) = .pointer (some ⟨p6, 0, none⟩) := by rw [← ha]; kernel_rfl
        refine fl_know hn rfl h6 ?_
        clear h6
        have h8 : (fr a0 [(6, true, .pointer (some ⟨p6, 0, none⟩))]).eval (.tmp 8) = .pointer (some ⟨g, 0, none⟩) := by rw [← ha]; kernel_rfl
        refine fl_know hn rfl h8 ?_
        clear h8
        refine g_ld hn ?_
        refine g_ld hn ?_
        refine g_bs1 hn ?_
        intro g9 w9 hg9 hY9 hB9
        refine g_c2x en_spinney_roster_Of hn (R := fun v w2 => v = .agg (liA (ofS N x)) ∧ Below w9.heap.size w9 w2) ((of_any N (some ⟨g9, 0, none⟩) 1 1 [x] w9 hsN.1 rfl (blk_rdw hY9) (by have := hY9.lt; omega) (by omega)).mono fun _ _ ⟨he, hb2⟩ => ⟨_, he, rfl, hb2⟩) ?_
        rintro v10 w10 ⟨rfl, hB10⟩
        have n12 := ofS_len hsN.1 x
        refine al_row hn (alL w10) ?_
        intro p9 w11 hp9 hX11 hB11
        refine g_str hX11 ?_ (hs := by rw [li_size, n12]; rfl) (hi := by rw [li_size, n12]; kernel_rfl) (h1 := li_one _)
        intro w12 ho12 hX12
        refine fl_end ?_
        clear hn
        subst ha
        dsimp only [fr, cnd, Act.put, cond_true]
        simp only [List.setIfInBounds_toArray, List.set_cons_zero, List.set_cons_succ]
        have hW12 : Below w8.heap.size w8 w12 := ((hB9.trans (hB10.mono hB9.size)).trans (hB11.mono (by have := hB9.size; have := hB10.size; omega))).trans (ho12.below (by have := hB9.size; have := hB10.size; omega))
        have hO12 := hO8.keep hW12
        have hX012 := hX08.keep hW12
        have hX612 := hX68.keep hW12
        have hY12 := hY8.keep hW12
        have hB12 : Below p6 w4 w12 := hB8'.trans (hW12.mono (by omega))
        have hz12 : B1 ≤ w12.heap.size := by have := hW12.size; omega
        have hp9B : B1 ≤ p9 := by have := hB9.size; have := hB10.size; omega
        clear lN lY hO8 hX08 hX68 hY8 hB8' hz8 hY9 hB9 hB10 hX11 hB11 ho12 hW12
        have f0 : ∀ W, Kp w12 W → _ := fun W _ => wfd0 W ⟨g, 0, none⟩
        have f1 : ∀ W, Kp w12 W → _ := fun W _ => ifd0 W ⟨g, 0, none⟩
        have m0 : ∀ W, Kp w12 W → (Instr.loadAt 3 (.pointer (some ⟨g, 0, none⟩))).run Try.prog W = .ok (.int .i64 (d : Int)) W := fun W h => load_int (((h.blk hY12).cell 0).trans (by rw [← ed]; rfl))
        have x9 : ∀ W, Kp w12 W → _ := fun W _ => ix_liL W p9 d hd
        have x6 : ∀ W, Kp w12 W → _ := fun W _ => ix_liL W p6 d hd
        have l9 : ∀ W, Kp w12 W → (Instr.loadAt 3 (.pointer (some ⟨p9, d, none⟩))).run Try.prog W = .ok (.int .i64 (gI N d + 1)) W := fun W h => by rw [← hgN]; exact load_int (li_cell (h.blk hX12) (by rw [n12]; exact hd))
        have l6 : ∀ W, Kp w12 W → (Instr.loadAt 3 (.pointer (some ⟨p6, d, none⟩))).run Try.prog W = .ok (.int .i64 (gI N d)) W := fun W h => load_int (li_cell (h.blk hX612) (by rw [hsN.1]; exact hd))
        have a1 : ∀ W, Kp w12 W → ((do eqGuard .add 3 (.tmp 58) (.const (.int .i64 1)) (.int .i64 (gI N d)) (.int .i64 1); binOp .add 3 (.int .i64 (gI N d)) (.int .i64 1)) : Sem Value).run Try.prog W = .ok (.int .i64 (gI N d + 1)) W := fun W _ => by
          have hs := hsN.2 d
          clear f0 f1 m0 x9 x6 l9 l6 hq hgN
          generalize gI N d = y at hs ⊢
          have wr : IntKind.i64.wrap (y + 1) = y + 1 := by unfold IntKind.wrap; simp [IntKind.bits, IntKind.signed]; omega
          go_simp
        go_upto_region 13 with fail
        refine fc_start (S := Kp w12) (by kernel_rfl) (Kp.drew _) ?_
        generalize ha : Act.mk _ _ = a0
        have hn : a0.tmps.size = 104 := by rw [← ha]; kernel_rfl
        have h6 : (fr a0 []).eval (.tmp 6) = .pointer (some ⟨p6, 0, none⟩) := by rw [← ha]; kernel_rfl
        refine fc_know hn rfl h6 ?_
        clear h6
        have h8 : (fr a0 [(6, true, .pointer (some ⟨p6, 0, none⟩))]).eval (.tmp 8) = .pointer (some ⟨g, 0, none⟩) := by rw [← ha]; kernel_rfl
        refine fc_know hn rfl h8 ?_
        clear h8
        have h9 : (fr a0 [(8, true, .pointer (some ⟨g, 0, none⟩)), (6, true, .pointer (some ⟨p6, 0, none⟩))]).eval (.tmp 9) = .pointer (some ⟨p9, 0, none⟩) := by rw [← ha]; kernel_rfl
        refine fc_know hn rfl h9 ?_
        clear h9
        refine c_fd 0 hn ?_
        refine c_fd 1 hn ?_
        refine c_ld 2 hn ?_
        refine c_ix 3 hn ?_
        refine c_ld 4 hn ?_
        refine c_fd 5 hn ?_
        refine c_fd 6 hn ?_
        refine c_ld 7 hn ?_
        refine c_ix 8 hn ?_
        refine c_ld 9 hn ?_
        refine c_bc 10 hn ?_
        refine c_neq2 11 hn ?_
        refine fc_end (fun w13 hS => ?_)
        clear hn
        subst ha
        dsimp only [fr, cnd, Act.put, cond_true]
        simp only [List.setIfInBounds_toArray, List.set_cons_zero, List.set_cons_succ]
        simp only [bne_self_eq_false]
        have hO13 := hO12.keep hS
        have hX013 := hS.blk hX012
        have hX613 := hS.blk hX612
        have hX913 := hS.blk hX12
        have hB13 : Below p6 w4 w13 := hB12.trans (hS.below.mono (by have := hX612.lt; omega))
        have hz13 : B1 ≤ w13.heap.size := by have := hS.below.size; omega
        clear f0 f1 m0 x9 x6 l9 l6 a1 hO12 hX012 hX612 hX12 hB12 hz12 hY12 hS
        have l9 := ld_liL hX913 n12
        go_upto_region 15 with fail
        refine wp_region_lit ?_
        refine fl_start ?_
        generalize ha : Act.mk _ _ = a0
        have hn : a0.tmps.size = 104 := by rw [← ha]; kernel_rfl
        have h6 : (fr a0 []).eval (.tmp 6) = .pointer (some ⟨p6, 0, none⟩) := by rw [← ha]; kernel_rfl
        refine fl_know hn rfl h6 ?_
        clear h6
        have h9 : (fr a0 [(6, true, .pointer (some ⟨p6, 0, none⟩))]).eval (.tmp 9) = .pointer (some ⟨p9, 0, none⟩) := by rw [← ha]; kernel_rfl
        refine fl_know hn rfl h9 ?_
        clear h9
        refine g_ld hn ?_
        refine g_str hX613 ?_ (hs := by rw [li_size, li_size, hsN.1, n12]) (hi := by rw [li_size, n12]; kernel_rfl) (h1 := li_one _)
        intro w14 ho14 hX614
        refine fl_end ?_
        clear hn
        subst ha
        dsimp only [fr, cnd, Act.put, cond_true]
        simp only [List.setIfInBounds_toArray, List.set_cons_zero, List.set_cons_succ]
        have hO14 : Hid (OwnX tWr 10 B1 w14 A8 (n5 + 1) c8 ((K ++ [x]).map Wr.cells)) := hO13.onlyG ho14 hp6
        have hX014 := hX013.only ho14 (by omega)
        have hB14 := hB13.trans (ho14.below (B := p6) (Nat.le_refl _))
        have hz14 : B1 ≤ w14.heap.size := by rw [ho14.size]; exact hz13
        clear l9 hO13 hX013 hX613 hX913 hB13 hz13 ho14 hT hq hgN
        go_wp2_with fail
        go_roundw
        case rel => exact ⟨k + 1, A8, n5 + 1, c8, K ++ [x], ofS N x, by omega, by go_num, by first | rfl | trivial, hO14, hX014, hX614, hB14, hz14, hT2, by simp; omega⟩
        case measure => simp [intOf]; omega
      · rw [hv]
        clear hv
        have f0 : ∀ W, Kp w6 W → _ := fun W _ => wfd0 W ⟨g, 0, none⟩
        have li : ∀ W, Kp w6 W → (Instr.loadAt 26 (.pointer (some ⟨g, 0, none⟩))).run Try.prog W = .ok (.agg #[.int .i64 (d : Int), .int .i64 x.seq]) W := fun W h => ild (((h.blk hY6).cell 0).trans (by rw [← ed]; rfl)) ((h.blk hY6).cell 1)
        have hR6 := hO6.rdw
        have cF : ∀ W, Kp w6 W → _ := kp_c fun W h => find_any A5 n5 c5 K (d : Int) x.seq W hn5 (hR6.keep h (Nat.le_refl _)) h.size (by omega)
        have f1 : ∀ W, Kp w6 W → _ := fun W _ => ifd0 W ⟨g, 0, none⟩
        have f2 : ∀ W, Kp w6 W → (Instr.fieldAt 26 (.pointer (some ⟨g, 0, none⟩)) 1).run Try.prog W = .ok (.pointer (some ⟨g, 1, none⟩)) W := fun W _ => by have := ifd1 W ⟨g, 0, none⟩; rwa [Nat.zero_add] at this
        have m0 : ∀ W, Kp w6 W → (Instr.loadAt 3 (.pointer (some ⟨g, 0, none⟩))).run Try.prog W = .ok (.int .i64 (d : Int)) W := fun W h => load_int (((h.blk hY6).cell 0).trans (by rw [← ed]; rfl))
        have m1 : ∀ W, Kp w6 W → (Instr.loadAt 3 (.pointer (some ⟨g, 1, none⟩))).run Try.prog W = .ok (.int .i64 x.seq) W := fun W h => load_int ((h.blk hY6).cell 1)
        have x0 : ∀ W, Kp w6 W → _ := fun W _ => ix_liL W b d hd
        have l0 : ∀ W, Kp w6 W → (Instr.loadAt 3 (.pointer (some ⟨b, d, none⟩))).run Try.prog W = .ok (.int .i64 (gI l d)) W := fun W h => load_int (li_cell (h.blk hX06) (by rw [hl]; exact hd))
        go_upto_region 17 with fail
        refine fc_start (S := Kp w6) (by kernel_rfl) (Kp.drew _) ?_
        generalize ha : Act.mk _ _ = a0
        have hn : a0.tmps.size = 104 := by rw [← ha]; kernel_rfl
        have h2 : (fr a0 []).eval (.tmp 2) = .pointer (some ⟨b, 0, none⟩) := by rw [← ha]; kernel_rfl
        refine fc_know hn rfl h2 ?_
        clear h2
        have h5 : (fr a0 [(2, true, .pointer (some ⟨b, 0, none⟩))]).eval (.tmp 5) = .slice A5 n5 c5 := by rw [← ha]; kernel_rfl
        refine fc_know hn rfl h5 ?_
        clear h5
        have h8 : (fr a0 [(5, true, .slice A5 n5 c5), (2, true, .pointer (some ⟨b, 0, none⟩))]).eval (.tmp 8) = .pointer (some ⟨g, 0, none⟩) := by rw [← ha]; kernel_rfl
        refine fc_know hn rfl h8 ?_
        clear h8
        refine c_mv 0 hn ?_
        refine c_fd 1 hn ?_
        refine c_ld 2 hn ?_
        refine c_calltt 3 hn ?_ (he := en_spinney_stamp_Find)
        refine c_lss 4 hn ?_
        refine c_mv 5 hn ?_
        refine c_fd 6 hn ?_
        refine c_fd 7 hn ?_
        refine c_ld 8 hn ?_
        refine c_ix 9 hn ?_
        refine c_ld 10 hn ?_
        refine c_fd 11 hn ?_
        refine c_fd 12 hn ?_
        refine c_ld 13 hn ?_
        refine c_lss2 14 hn ?_
        refine c_an 15 hn ?_
        refine fc_end (fun w7 hS => ?_)
        clear hn
        subst ha
        dsimp only [fr, cnd, Act.put, cond_true]
        simp only [List.setIfInBounds_toArray, List.set_cons_zero, List.set_cons_succ]
        have hO7 : Hid (OwnX tWr 10 B1 w7 A5 n5 c5 (K.map Wr.cells)) := hO6.keep hS
        have hX07 := hS.blk hX06
        have hX67 := hS.blk hX66
        have hB7 : Below p6 w4 w7 := hB6.trans (hS.below.mono (by have := hX66.lt; omega))
        have hz7 : B1 ≤ w7.heap.size := by have := hS.below.size; omega
        have hold := hT.out.old hd hq
        rw [hold]
        clear f0 li hR6 cF f1 f2 m0 m1 x0 l0 hO6 hX06 hX66 hY6 hB6 hz6 hS hold hq
        go_wp2_with fail
        go_roundw
        case rel => exact ⟨k + 1, A5, n5, c5, K, N, by omega, by go_num, by first | rfl | trivial, hO7, hX07, hX67, hB7, hz7, hT, by omega⟩
        case measure => simp [intOf]; omega
      · rw [hv]
        clear hv
        have f0 : ∀ W, Kp w6 W → _ := fun W _ => wfd0 W ⟨g, 0, none⟩
        have li : ∀ W, Kp w6 W → (Instr.loadAt 26 (.pointer (some ⟨g, 0, none⟩))).run Try.prog W = .ok (.agg #[.int .i64 (d : Int), .int .i64 x.seq]) W := fun W h => ild (((h.blk hY6).cell 0).trans (by rw [← ed]; rfl)) ((h.blk hY6).cell 1)
        have hR6 := hO6.rdw
        have cF : ∀ W, Kp w6 W → _ := kp_c fun W h => find_any A5 n5 c5 K (d : Int) x.seq W hn5 (hR6.keep h (Nat.le_refl _)) h.size (by omega)
        go_upto_region 20 with fail
        refine wp_region_lit ?_
        refine fs_start (Kp w6) (Kp.refl _) ?_
        generalize ha : Act.mk _ _ = a0
        have hn : a0.tmps.size = 104 := by rw [← ha]; kernel_rfl
        have h5 : (fr a0 []).eval (.tmp 5) = .slice A5 n5 c5 := by rw [← ha]; kernel_rfl
        refine fs_know hn rfl h5 ?_
        clear h5
        have h8 : (fr a0 [(5, true, .slice A5 n5 c5)]).eval (.tmp 8) = .pointer (some ⟨g, 0, none⟩) := by rw [← ha]; kernel_rfl
        refine fs_know hn rfl h8 ?_
        clear h8
        refine s_mv hn ?_
        refine s_fd hn ?_
        refine s_ld hn ?_
        refine s_calltt hn ?_ (he := en_spinney_stamp_Find)
        refine s_geq hn ?_
        refine fs_end (fun w7 hS => ?_)
        clear hn
        subst ha
        dsimp only [fr, cnd, Act.put, cond_true]
        simp only [List.setIfInBounds_toArray, List.set_cons_zero, List.set_cons_succ]
        have hO7 : Hid (OwnX tWr 10 B1 w7 A5 n5 c5 (K.map Wr.cells)) := hO6.keep hS
        have hX07 := hS.blk hX06
        have hX67 := hS.blk hX66
        have hB7 : Below p6 w4 w7 := hB6.trans (hS.below.mono (by have := hX66.lt; omega))
        have hz7 : B1 ≤ w7.heap.size := by have := hS.below.size; omega
        have hah := hT.out.ahead hq
        rw [hah]
        clear f0 li hR6 cF hO6 hX06 hX66 hY6 hB6 hz6 hS hah hq
        go_wp2_with fail
        go_roundw
        case rel => exact ⟨k + 1, A5, n5, c5, K, N, by omega, by go_num, by first | rfl | trivial, hO7, hX07, hX67, hB7, hz7, hT, by omega⟩
        case measure => simp [intOf]; omega
    · have e : k = n := by omega
      subst e
      have hT2 := hT.out
      have hsN := hT2.smlS
      have hR5 := hO.out.rdw
      have l0 : ∀ W, Kp wr W → (Instr.loadAt 23 (.pointer (some ⟨b, 0, none⟩))).run Try.prog W = .ok (.agg (liA l)) W := fun W h => ld_liL (h.blk hX0) hl
      have l6 : ∀ W, Kp wr W → (Instr.loadAt 23 (.pointer (some ⟨p6, 0, none⟩))).run Try.prog W = .ok (.agg (liA N)) W := fun W h => ld_liL (h.blk hX6) hsN.1
      have e1 : ∀ W, ((do eqGuard .eql 23 (.tmp 91) (.tmp 94) (.agg (liA N)) (.agg (liA N)); binOp .eql 23 (.agg (liA N)) (.agg (liA N))) : Sem Value).run Try.prog W = .ok (.bool true) W := fun W => (li_eqC 91 94 hsN.1 hsN.1 W).trans (by rw [decide_eq_true rfl])
      go_upto_region 23 with fail
      refine fh_start (S := Kp wr) (by kernel_rfl) (Kp.drew _) (fun hS => ?_)
      generalize ha : Act.mk _ _ = a0
      have hn : a0.tmps.size = 104 := by rw [← ha]; kernel_rfl
      have h2 : (fr a0 []).eval (.tmp 2) = .pointer (some ⟨b, 0, none⟩) := by rw [← ha]; kernel_rfl
      refine fh_know hn rfl h2 ?_
      clear h2
      have h5 : (fr a0 [(2, true, .pointer (some ⟨b, 0, none⟩))]).eval (.tmp 5) = .slice A5 n5 c5 := by rw [← ha]; kernel_rfl
      refine fh_know hn rfl h5 ?_
      clear h5
      have h6 : (fr a0 [(5, true, .slice A5 n5 c5), (2, true, .pointer (some ⟨b, 0, none⟩))]).eval (.tmp 6) = .pointer (some ⟨p6, 0, none⟩) := by rw [← ha]; kernel_rfl
      refine fh_know hn rfl h6 ?_
      clear h6
      refine h_mv 0 hn hS ?_
      refine h_c1 1 en_spinney_stamp_Tight hn (R := fun v w2 => v = .bool true ∧ Kp wr w2) ((tight_any A5 n5 c5 K _ hn5 (hR5.keep hS (Nat.le_refl _)) hS.below.size (by omega)).mono fun _ _ ⟨he, hb2⟩ => ⟨_, he, by rw [hT2.ok], hS.trans hb2⟩) ?_
      rintro v wn ⟨rfl, hSn⟩
      refine ⟨hSn, ?_⟩
      replace hS := hSn
      clear hSn
      refine h_mv 2 hn hS ?_
      refine h_ld 3 hn hS ?_
      refine h_ld 4 hn hS ?_
      refine h_mv 5 hn hS ?_
      refine h_c2 6 en_spinney_roster_Of hn (R := fun v w2 => v = .agg (liA N) ∧ Kp wr w2) ((of_any l A5 n5 c5 K _ hl hn5 (hR5.keep hS (Nat.le_refl _)) hS.below.size (by omega)).mono fun _ _ ⟨he, hb2⟩ => ⟨_, he, by rw [← hT2.eq], hS.trans hb2⟩) ?_
      rintro v wn ⟨rfl, hSn⟩
      refine ⟨hSn, ?_⟩
      replace hS := hSn
      clear hSn
      refine h_op 7 hn hS (fun W _ hk => x_bn (lk_at hk (i := 91) rfl (fun _ => rfl) rfl) (lk_at hk (i := 94) rfl (fun _ => rfl) rfl) (e1 W)) ?_
      refine h_op 8 hn hS (fun W _ hk => x_an (fun _ => rfl) (lk_at hk (i := 90) rfl (fun _ => rfl) rfl) (fun _ => lk_at hk (i := 95) rfl (fun _ => rfl) rfl)) ?_
      refine h_mv 9 hn hS ?_
      refine h_ld 10 hn hS ?_
      refine h_mv 11 hn hS ?_
      refine h_c2 12 en_spinney_roster_Left hn (R := fun v w2 => ∃ A9 c9, v = .slice A9 0 c9 ∧ Kp wr w2) ((left_any N A5 n5 c5 K _ hsN hn5 (hR5.keep hS (Nat.le_refl _)) hS.below.size (by omega) (fun x hx => good_len (hT2.good x hx))).mono fun e _ h => by
        obtain ⟨A9, n9, c9, rfl, h2, h3⟩ := h
        have h4 := h2.len
        rw [hT2.none] at h4
        have h5 : n9 = 0 := h4.symm
        subst h5
        exact ⟨_, rfl, A9, c9, rfl, hS.trans h3⟩) ?_
      rintro v wn ⟨A9, c9, rfl, hSn⟩
      refine ⟨hSn, ?_⟩
      replace hS := hSn
      clear hSn
      refine h_op 13 hn hS (fun W _ hk => len_is _ _ _ _ _ _ _ _ A9 0 c9 (lk_at hk (i := 100) rfl (fun _ => rfl) rfl) (by kernel_rfl)) ?_
      refine h_eql 14 hn hS ?_
      refine h_op 15 hn hS (fun W _ hk => x_an (fun _ => rfl) (lk_at hk (i := 97) rfl (fun _ => rfl) rfl) (fun _ => lk_at hk (i := 102) rfl (fun _ => rfl) rfl)) ?_
      refine h_as 16 hn hS ?_
      refine fh_end (by kernel_rfl) ?_
      clear hn
      subst ha
      dsimp only [fr, cnd, Act.put, cond_true]
      simp only [List.setIfInBounds_toArray, List.set_cons_zero, List.set_cons_succ]
      have hBn : Below b w _ := hB4.trans ((hB.trans (hS.below.mono (by have := hX6.lt; omega))).mono (by omega))
      clear l0 l6 e1 hR5 hX0 hX6 hO hT hT2 hB hS
      go_wp2_with fail
      go_ret
      exact ⟨rfl, by first | exact hBn | (rw [hb]; exact hBn)⟩
theorem rosterTight_all (x0 x1 x2 x3 x4 x5 x6 x7 x8 x9 x10 x11 : Int) (A : Option Addr) (n c : Nat) (ws : List Wr) (w : World) (hn : ws.length = n) (hr : RdW w.heap.size w A ws) (hm : n ≤ maxLen) (hf : ∀ x, x ∈ ws → x.fits) : Calls Try.prog 5 #[.agg (laI x0 x1 x2 x3 x4 x5 x6 x7 x8 x9 x10 x11), .slice A n c] w fun e w' => e = .returned (.bool true) ∧ Below w.heap.size w w' := lawTight_all (laL x0 x1 x2 x3 x4 x5 x6 x7 x8 x9 x10 x11) A n c ws w rfl hn hr hm hf
end Go.Proofs.Ytgbopikhdpmmcaa
