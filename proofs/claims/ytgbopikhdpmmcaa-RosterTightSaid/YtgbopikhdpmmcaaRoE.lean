/-
  WHAT IS PROVED: the law RosterOrder returns true. Conditions: those typed in each theorem.
-/
import Derived.Test.YtgbopikhdpmmcaaRoC
import Derived.Test.YtgbopikhdpmmcaaRoD
import Derived.Test.YtgbopikhdpmmcaaApM
namespace Go.Proofs.Ytgbopikhdpmmcaa
open Go.RowKit

theorem en_spinney_spinneyref03_GoodAll : ∀ args w, (callFunc 9 args).run Try.prog w = .ok (.enter 9 args) w := enters_of Try.func9 (by kernel_rfl) rfl

/-- The greatest of a number and a device's. -/
def mxI (j : Nat) (m : Int) (ws : List Wr) : Int := ws.foldl (fun m x => if x.dev = (j : Int) then max m x.seq else m) m
theorem mxI_app (j : Nat) (m : Int) (a c : List Wr) : mxI j m (a ++ c) = mxI j (mxI j m a) c := by unfold mxI; rw [List.foldl_append]
theorem mxI_max (j : Nat) (ws : List Wr) : ∀ m c : Int, mxI j (max m c) ws = max (mxI j m ws) c := by
  induction ws with
  | nil => intro m c; rfl
  | cons x r ih =>
    intro m c
    show mxI j (if x.dev = (j : Int) then max (max m c) x.seq else max m c) r = max (mxI j (if x.dev = (j : Int) then max m x.seq else m) r) c
    split
    · rw [show max (max m c) x.seq = max (max m x.seq) c by omega]
      exact ih _ _
    · exact ih _ _
theorem mxI_le (j : Nat) (ws : List Wr) : ∀ m : Int, m ≤ mxI j m ws := by
  induction ws with
  | nil => intro m; exact Int.le_refl _
  | cons x r ih =>
    intro m
    show m ≤ mxI j (if x.dev = (j : Int) then max m x.seq else m) r
    refine Int.le_trans ?_ (ih _)
    split <;> omega
theorem mxI_two (j : Nat) (m : Int) (a c : List Wr) : mxI j (mxI j m a) c = max (mxI j m a) (mxI j m c) := by
  have h := mxI_le j a m
  have e : mxI j m a = max m (mxI j m a) := by omega
  rw [e, mxI_max, ← e]
  omega
theorem gI_ofL {j : Nat} (hj : j < 12) : ∀ (ws : List Wr) (l : List Int), l.length = 12 → gI (ofL l ws) j = mxI j (gI l j) ws := by
  intro ws
  induction ws with
  | nil => intro l _; rfl
  | cons x r ih =>
    intro l hl
    show gI (ofL (ofS l x) r) j = mxI j (if x.dev = (j : Int) then max (gI l j) x.seq else gI l j) r
    rw [ih _ (ofS_len hl x)]
    congr 1
    cases hn : nodeB x.dev with
    | false =>
      rw [ofS_no hn, if_neg]
      intro e
      unfold nodeB at hn
      rw [e, decide_eq_true (by omega), decide_eq_true (by omega)] at hn
      cases hn
    | true =>
      obtain ⟨d, hd, e⟩ := nodeB_nat hn
      rw [ofS_yes hd e, gI_set (by omega), e]
      by_cases h : d = j
      · subst h
        rw [if_pos rfl, if_pos rfl]
      · rw [if_neg h, if_neg (by omega)]
theorem ofL_eq {l : List Int} (hl : l.length = 12) {m : List Int} (hm : m.length = 12) {ws : List Wr} (h : ∀ j, j < 12 → gI m j = mxI j (gI l j) ws) : m = ofL l ws :=
  li_ext hm (ofL_len hl ws) fun j hj => by rw [h j hj, gI_ofL hj ws l hl]
theorem order_true {l : List Int} (hl : l.length = 12) (ws : List Wr) (k : Nat) :
    ofL l (ws.drop k ++ ws.take k) = ofL l ws ∧ ofL (ofL l (ws.take k)) (ws.drop k) = ofL l ws ∧ joinL (ofL l (ws.take k)) (ofL l (ws.drop k)) = ofL l ws ∧ covB (ofL l ws) l = true := by
  have ht : ∀ j, mxI j (gI l j) ws = max (mxI j (gI l j) (ws.take k)) (mxI j (gI l j) (ws.drop k)) := fun j => by
    rw [← mxI_two, ← mxI_app, List.take_append_drop]
  refine ⟨ofL_eq hl (ofL_len hl _) fun j hj => ?_, ofL_eq hl (ofL_len (ofL_len hl _) _) fun j hj => ?_, ofL_eq hl (joinL_len ..) fun j hj => ?_, (covB_iff (ofL_len hl ws)).2 fun j hj => ?_⟩
  · rw [gI_ofL hj _ l hl, mxI_app, mxI_two, ht j]
    omega
  · rw [gI_ofL hj _ _ (ofL_len hl _), gI_ofL hj _ l hl, mxI_two, ht j]
  · rw [gI_join hj, gI_ofL hj _ l hl, gI_ofL hj _ l hl, ht j]
  · rw [gI_ofL hj _ l hl]
    exact mxI_le j ws _
set_option maxRecDepth 100000 in
set_option maxHeartbeats 4000000 in
theorem lawOrder_all (l : List Int) (A : Option Addr) (n c : Nat) (ws : List Wr) (by0 : Int) (w : World) (hl : l.length = 12) (hn0 : ws.length = n) (hr : RdW w.heap.size w A ws) (hm : n ≤ maxLen) (hf : ∀ x, x ∈ ws → x.fits) (hc : n ≤ c) :
    Calls Try.prog 6 #[.agg (liA l), .slice A n c, .int .i64 by0] w fun e w' => e = .returned (.bool true) ∧ Below w.heap.size w w' := by
  have HN := Lib.hid hn0
  have HF := Lib.hid hf
  have hrW := Lib.hid (fun W hb => (hr.keep (C := w.heap.size) (W' := W) hb (Nat.le_refl _)))
  clear hf
  have hX0 := blk_new w (liA l) 23
  have hB := b0 w (.cells (liA l) 23)
  have hzz : (w.alloc (.cells (liA l) 23)).heap.size = w.heap.size + 1 := by simp
  go_enter Try.func6, Try.ntmps6
  go_upto_region 1 with fail
  generalize (w.alloc (.cells (liA l) 23)) = W0 at hX0 hB hzz ⊢
  generalize hb : w.heap.size = b at hX0 hB hzz ⊢
  have hR0 : RdW W0.heap.size W0 A ws := (hrW.out W0 (by rw [hb]; exact hB)).more (by omega)
  have HR := Lib.hid (fun W (h : Kp W0 W) => hR0.keep (W' := W) h (Nat.le_refl _))
  have l1 : ∀ W, Kp W0 W → (Instr.loadAt 23 (.pointer (some ⟨b, 0, none⟩))).run Try.prog W = .ok (.agg (liA l)) W := fun W h => ld_liL (h.blk hX0) hl
  have c0 : ∀ W, Kp W0 W → _ := kp_c fun W _ => awake13_any W
  have c1 : ∀ W, Kp W0 W → _ := kp_c fun W _ => refGL_any l W hl
  have c2 : ∀ W, Kp W0 W → _ := kp_c fun W h => refGoodAll_any A n c ws W HN.out (HR.out W h) h.size hm HF.out
  refine wp_region_lit ?_
  refine fs_start (Kp W0) (Kp.refl _) ?_
  generalize ha : Act.mk _ _ = a0
  have hn : a0.tmps.size = 90 := by rw [← ha]; kernel_rfl
  have h1 : (fr a0 []).eval (.tmp 1) = .slice A n c := by rw [← ha]; kernel_rfl
  refine fs_know hn rfl h1 ?_
  clear h1
  have h3 : (fr a0 [(1, true, .slice A n c)]).eval (.tmp 3) = .pointer (some ⟨b, 0, none⟩) := by rw [← ha]; kernel_rfl
  refine fs_know hn rfl h3 ?_
  clear h3
  refine s_call hn ?_ (he := en_spinney_spinneylaw13_awake)
  refine s_nt hn ?_
  refine s_mv hn ?_
  refine s_ld hn ?_
  refine s_callt hn ?_ (he := en_spinney_spinneyref07_GoodLasts)
  refine s_nt hn ?_
  refine s_or hn ?_
  refine s_mv hn ?_
  refine s_mv hn ?_
  refine s_callt hn ?_ (he := en_spinney_spinneyref03_GoodAll)
  refine s_nt hn ?_
  refine s_or hn ?_
  refine s_mv hn ?_
  refine s_mv hn ?_
  refine s_ln hn ?_
  refine s_eql hn ?_
  refine s_or hn ?_
  refine s_mv hn ?_
  refine s_mv hn ?_
  refine s_ln hn ?_
  refine s_gtr hn ?_
  refine s_or hn ?_
  refine fs_end (fun w2 hS => ?_)
  clear hn
  subst ha
  dsimp only [fr, cnd, Act.put, cond_true]
  simp only [List.setIfInBounds_toArray, List.set_cons_zero, List.set_cons_succ]
  cases hg : (((((!true || !glaB l) || !goodAll ws) || ((n : Int) == 0)) || decide ((100 : Int) < (n : Int)))) with
  | true =>
    clear hg
    go_upto_region 2 with fail
    refine wp_region_lit ?_
    refine fs_start (Kp W0) (hS) ?_
    generalize ha : Act.mk _ _ = a0
    have hn : a0.tmps.size = 90 := by rw [← ha]; kernel_rfl
    refine s_call hn ?_ (he := en_spinney_spinneylaw13_awake)
    refine s_as hn ?_
    refine fs_end (fun w3 hS3 => ?_)
    clear hn
    subst ha
    dsimp only [fr, cnd, Act.put, cond_true]
    simp only [List.setIfInBounds_toArray, List.set_cons_zero, List.set_cons_succ]
    have hB3 : Below b w w3 := hB.trans (hS3.below.mono (by omega))
    clear l1 c0 c1 c2 hX0 hS hS3 hB
    go_wp2_with fail
    go_ret
    exact ⟨rfl, by first | exact hB3 | (rw [hb]; exact hB3)⟩
  | false =>
  obtain ⟨hn1, hn2⟩ : n ≠ 0 ∧ n ≤ 100 := by
    simp only [Bool.or_eq_false_iff, beq_eq_false_iff_ne, ne_eq, decide_eq_false_iff_not] at hg
    omega
  clear hg c0 c1 c2
  obtain ⟨ad, rfl⟩ : ∃ ad, A = some ad := by
    have h0 : (0 : Nat) < ws.length := by have := HN.out; omega
    obtain ⟨ad, e, _⟩ := HR.out W0 (Kp.refl _) 0 _ (List.getElem?_eq_getElem h0)
    exact ⟨ad, e⟩
  obtain ⟨k, hkn, hk⟩ : ∃ k : Nat, k < n ∧ IntKind.u64.wrap by0 % (n : Int) = (k : Int) := by
    have h1 := Int.emod_nonneg (IntKind.u64.wrap by0) (show (n : Int) ≠ 0 by omega)
    have h2 := Int.emod_lt_of_pos (IntKind.u64.wrap by0) (show (0 : Int) < (n : Int) by omega)
    exact ⟨(IntKind.u64.wrap by0 % (n : Int)).toNat, by omega, by omega⟩
  have hu : 0 ≤ IntKind.u64.wrap by0 := by unfold IntKind.wrap; simp [IntKind.bits, IntKind.signed]; omega
  have v1 : ∀ W, Kp W0 W → (convert 3 54 (.int .i64 by0)).run Try.prog W = .ok (.int .u64 (IntKind.u64.wrap by0)) W := fun W _ => by clear l1 hX0; go_simp
  have v2 : ∀ W, Kp W0 W → (convert 3 54 (.int .i64 (n : Int))).run Try.prog W = .ok (.int .u64 (n : Int)) W := fun W _ => by
    have e2 : IntKind.u64.wrap (n : Int) = (n : Int) := by unfold IntKind.wrap; simp [IntKind.bits, IntKind.signed]; omega
    clear l1 hX0
    go_simp
  generalize IntKind.u64.wrap by0 = u at v1 hk hu
  have v3 : ∀ W, Kp W0 W → ((do eqGuard .rem 54 (.tmp 34) (.tmp 37) (.int .u64 u) (.int .u64 (n : Int)); binOp .rem 54 (.int .u64 u) (.int .u64 (n : Int))) : Sem Value).run Try.prog W = .ok (.int .u64 (k : Int)) W := fun W _ => by
    have e1 : u.tmod (n : Int) = (k : Int) := by rw [Int.tmod_eq_emod_of_nonneg hu, hk]
    have e2 : IntKind.u64.wrap (k : Int) = (k : Int) := by unfold IntKind.wrap; simp [IntKind.bits, IntKind.signed]; omega
    have e3 : ¬ (n : Int) = 0 := by omega
    clear l1 hX0 hk hu
    go_simp
  have v4 : ∀ W, Kp W0 W → (convert 54 3 (.int .u64 (k : Int))).run Try.prog W = .ok (.int .i64 (k : Int)) W := fun W _ => by
    have e2 : IntKind.i64.wrap (k : Int) = (k : Int) := by unfold IntKind.wrap; simp [IntKind.bits, IntKind.signed]; omega
    clear l1 hX0
    go_simp
  go_upto_region 3 with fail
  refine wp_region_lit ?_
  refine fs_start (Kp W0) (hS) ?_
  generalize ha : Act.mk _ _ = a0
  have hn : a0.tmps.size = 90 := by rw [← ha]; kernel_rfl
  have h1 : (fr a0 []).eval (.tmp 1) = .slice (some ad) n c := by rw [← ha]; kernel_rfl
  refine fs_know hn rfl h1 ?_
  clear h1
  have h2 : (fr a0 [(1, true, .slice (some ad) n c)]).eval (.tmp 2) = .int .i64 by0 := by rw [← ha]; kernel_rfl
  refine fs_know hn rfl h2 ?_
  clear h2
  refine s_mv hn ?_
  refine s_cv hn ?_
  refine s_mv hn ?_
  refine s_ln hn ?_
  refine s_cv hn ?_
  refine s_bn hn ?_
  refine s_cv hn ?_
  refine s_as hn ?_
  refine fs_end (fun w3 hS3 => ?_)
  clear hn
  subst ha
  dsimp only [fr, cnd, Act.put, cond_true]
  simp only [List.setIfInBounds_toArray, List.set_cons_zero, List.set_cons_succ]
  clear v1 v2 v3 v4 hk hu hS
  have c3 : ∀ W, Kp W0 W → _ := kp_c fun W h => of_any l (some ad) n c ws W hl HN.out (HR.out W h) h.size (by omega)
  go_upto_region 4 with fail
  refine wp_region_lit ?_
  refine fs_start (Kp W0) (hS3) ?_
  generalize ha : Act.mk _ _ = a0
  have hn : a0.tmps.size = 90 := by rw [← ha]; kernel_rfl
  have h1 : (fr a0 []).eval (.tmp 1) = .slice (some ad) n c := by rw [← ha]; kernel_rfl
  refine fs_know hn rfl h1 ?_
  clear h1
  have h3 : (fr a0 [(1, true, .slice (some ad) n c)]).eval (.tmp 3) = .pointer (some ⟨b, 0, none⟩) := by rw [← ha]; kernel_rfl
  refine fs_know hn rfl h3 ?_
  clear h3
  refine s_ld hn ?_
  refine s_mv hn ?_
  refine s_calltt hn ?_ (he := en_spinney_roster_Of)
  refine fs_fl fun w4 hS4 => ?_
  have h12 := ofL_len hl ws
  refine al_row hn (alL w4) ?_
  intro g w5 hg5 hX5 hB5
  refine g_str hX5 ?_ (hs := by rw [li_size, h12]; rfl) (hi := by rw [li_size, h12]; kernel_rfl) (h1 := li_one _)
  intro w6 ho hX6
  refine fl_end ?_
  clear hn
  subst ha
  dsimp only [fr, cnd, Act.put, cond_true]
  simp only [List.setIfInBounds_toArray, List.set_cons_zero, List.set_cons_succ]
  have hsz := hS4.below.size
  have hY : Kp W0 w6 := Below.trans (hS4.trans hB5) (ho.below (by omega))
  have hB6 : Below b w w6 := hB.trans (hY.below.mono (by omega))
  have hX0' := hY.blk hX0
  have hR6 : RdW W0.heap.size w6 (some ad) ws := HR.out w6 hY
  have hz6 : W0.heap.size ≤ w6.heap.size := hY.below.size
  clear c3 hX5 hB5 ho l1 hX0 hS3 hS4 hB
  have s1 := fun W => run_wlo W ad n c k (by omega) (by omega)
  have s2 := fun W => run_whi W (some ad) n c k (by omega) hc
  go_upto_region 5 with fail
  refine fh_start (S := Kp w6) (by kernel_rfl) (Kp.drew _) (fun hS => ?_)
  generalize ha : Act.mk _ _ = a0
  have hn : a0.tmps.size = 90 := by rw [← ha]; kernel_rfl
  have h1 : (fr a0 []).eval (.tmp 1) = .slice (some ad) n c := by rw [← ha]; kernel_rfl
  refine fh_know hn rfl h1 ?_
  clear h1
  have h7 : (fr a0 [(1, true, .slice (some ad) n c)]).eval (.tmp 7) = .int .i64 (k : Int) := by rw [← ha]; kernel_rfl
  refine fh_know hn rfl h7 ?_
  clear h7
  refine h_mv 1 hn hS ?_
  refine h_mv 2 hn hS ?_
  refine h_op 3 hn hS (fun W _ hk => x_slo (lk_at hk (i := 44) rfl (fun _ => rfl) rfl) (lk_at hk (i := 45) rfl (fun _ => rfl) rfl) (s1 W)) ?_
  refine h_mv 5 hn hS ?_
  refine h_mv 6 hn hS ?_
  refine h_op 7 hn hS (fun W _ hk => x_shi (lk_at hk (i := 48) rfl (fun _ => rfl) rfl) (lk_at hk (i := 49) rfl (fun _ => rfl) rfl) (s2 W)) ?_
  refine fh_valx 0 hn (d := 43) (v := .slice (some ⟨w6.drew.heap.size, 0, none⟩) 0 0) (w2 := w6.drew.alloc (.cells #[] tWr)) rfl (fun _ => x_bs0 _) (hS.trans (b0 _ _)) ?_ rfl rfl (by kernel_rfl) rfl
  have hO := own0W w6.drew w6.heap.size (Nat.le_refl _)
  have hK7 : Kp w6 (w6.drew.alloc (.cells #[] tWr)) := hS.trans (b0 _ _)
  generalize w6.drew.alloc (.cells #[] tWr) = w7 at hO hK7 ⊢
  generalize w6.drew.heap.size = g7 at hO ⊢
  have hlo : (ws.drop k).length = n - k := by rw [List.length_drop, HN.out]
  have hhi : (ws.take k).length = k := by rw [List.length_take, HN.out]; omega
  refine h_apW 4 hn hO ((hR6.keep hK7 hz6).lo k) hlo (by omega) hK7.size (.inl (by simp)) ?_
  rintro v8 w8 ⟨A8, cc8, rfl, hO8, hB8, hA8, _⟩
  have hK8 : Kp w6 w8 := Below.trans hK7 hB8
  refine ⟨hK8, ?_⟩
  refine h_apW 8 hn hO8 ((hR6.keep hK8 hz6).hi k) hhi (by omega) hK8.size (.inl hA8) ?_
  rintro v9 w9 ⟨A9, cc9, rfl, hO9, hB9, hA9, _⟩
  have hK9 : Kp w6 w9 := Below.trans hK8 hB9
  refine ⟨hK9, ?_⟩
  have hS9 : Kp w6 w9 := hK9
  clear hS
  have hS := hS9
  refine h_as 9 hn hS ?_
  refine fh_end (by kernel_rfl) ?_
  clear hn
  subst ha
  dsimp only [fr, cnd, Act.put, cond_true]
  simp only [List.setIfInBounds_toArray, List.set_cons_zero, List.set_cons_succ]
  clear hO hO8 hK7 hK8 hB8 hB9 hA8 hA9 s1 s2 hlo hhi hS hS9
  have hn9 : 0 + (n - k) + k = n := by omega
  rw [hn9] at hO9 ⊢
  rw [List.nil_append] at hO9
  have hR9 := hO9.rdw
  have hX0' := hK9.blk hX0'
  have hX6 := hK9.blk hX6
  have hRa : RdW W0.heap.size w9 (some ad) ws := hR6.keep hK9 hz6
  have hB9 : Below b w w9 := hB6.trans (hK9.below.mono (by have := hB6.size; omega))
  have hz9 : W0.heap.size ≤ w9.heap.size := by have := hK9.below.size; omega
  clear hR6 hK9 hB6 hY hO9
  have l1 : ∀ W, Kp w9 W → (Instr.loadAt 23 (.pointer (some ⟨b, 0, none⟩))).run Try.prog W = .ok (.agg (liA l)) W := fun W h => ld_liL (h.blk hX0') hl
  have l2 : ∀ W, Kp w9 W → (Instr.loadAt 23 (.pointer (some ⟨g, 0, none⟩))).run Try.prog W = .ok (.agg (liA (ofL l ws))) W := fun W h => ld_liL (h.blk hX6) h12
  have s1 : ∀ W, Kp w9 W → _ := fun W _ => run_wlo W ad n c k (by omega) (by omega)
  have s2 : ∀ W, Kp w9 W → _ := fun W _ => run_whi W (some ad) n c k (by omega) hc
  have hlo : (ws.drop k).length = n - k := by rw [List.length_drop, HN.out]
  have hhi : (ws.take k).length = k := by rw [List.length_take, HN.out]; omega
  have t12 := ofL_len hl (ws.take k)
  have d12 := ofL_len hl (ws.drop k)
  have c1 : ∀ W, Kp w9 W → _ := kp_c fun W h => of_any l A9 n cc9 (ws.drop k ++ ws.take k) W hl (by rw [List.length_append, hlo, hhi]; omega) (hR9.keep h (Nat.le_refl _)) h.size (by omega)
  have c2 : ∀ W, Kp w9 W → _ := kp_c fun W h => of_any l (some ad) k c (ws.take k) W hl hhi ((hRa.keep h hz9).hi k) (Nat.le_trans hz9 h.size) (by omega)
  have c3 : ∀ W, Kp w9 W → _ := kp_c fun W h => of_any (ofL l (ws.take k)) (some (ad.add (k * 10))) (n - k) (c - k) (ws.drop k) W t12 hlo ((hRa.keep h hz9).lo k) (Nat.le_trans hz9 h.size) (by omega)
  have c4 : ∀ W, Kp w9 W → _ := kp_c fun W h => of_any l (some (ad.add (k * 10))) (n - k) (c - k) (ws.drop k) W hl hlo ((hRa.keep h hz9).lo k) (Nat.le_trans hz9 h.size) (by omega)
  have c5 : ∀ W, Kp w9 W → _ := kp_c fun W _ => join_any (ofL l (ws.take k)) (ofL l (ws.drop k)) W t12 d12
  have c6 : ∀ W, Kp w9 W → _ := kp_c fun W _ => covers_any (ofL l ws) l W h12 hl
  have e1 : ∀ W, Kp w9 W → _ := fun W _ => li_eqC 54 55 (ofL_len hl (ws.drop k ++ ws.take k)) h12 W
  have e2 : ∀ W, Kp w9 W → _ := fun W _ => li_eqC 66 67 (ofL_len t12 (ws.drop k)) h12 W
  have e3 : ∀ W, Kp w9 W → _ := fun W _ => li_eqC 81 82 (joinL_len (ofL l (ws.take k)) (ofL l (ws.drop k))) h12 W
  go_upto_region 6 with fail
  refine fc_start (S := Kp w9) (by kernel_rfl) (Kp.drew _) ?_
  generalize ha : Act.mk _ _ = a0
  have hn : a0.tmps.size = 90 := by rw [← ha]; kernel_rfl
  have h1 : (fr a0 []).eval (.tmp 1) = .slice (some ad) n c := by rw [← ha]; kernel_rfl
  refine fc_know hn rfl h1 ?_
  clear h1
  have h3 : (fr a0 [(1, true, .slice (some ad) n c)]).eval (.tmp 3) = .pointer (some ⟨b, 0, none⟩) := by rw [← ha]; kernel_rfl
  refine fc_know hn rfl h3 ?_
  clear h3
  have h7 : (fr a0 [(3, true, .pointer (some ⟨b, 0, none⟩)), (1, true, .slice (some ad) n c)]).eval (.tmp 7) = .int .i64 (k : Int) := by rw [← ha]; kernel_rfl
  refine fc_know hn rfl h7 ?_
  clear h7
  have h8 : (fr a0 [(7, true, .int .i64 (k : Int)), (3, true, .pointer (some ⟨b, 0, none⟩)), (1, true, .slice (some ad) n c)]).eval (.tmp 8) = .pointer (some ⟨g, 0, none⟩) := by rw [← ha]; kernel_rfl
  refine fc_know hn rfl h8 ?_
  clear h8
  have h9 : (fr a0 [(8, true, .pointer (some ⟨g, 0, none⟩)), (7, true, .int .i64 (k : Int)), (3, true, .pointer (some ⟨b, 0, none⟩)), (1, true, .slice (some ad) n c)]).eval (.tmp 9) = .slice A9 n cc9 := by rw [← ha]; kernel_rfl
  refine fc_know hn rfl h9 ?_
  clear h9
  refine c_ld 0 hn ?_
  refine c_mv 1 hn ?_
  refine c_calltt 2 hn ?_ (he := en_spinney_roster_Of)
  refine c_ld 3 hn ?_
  refine c_bn 4 hn ?_
  refine c_mv 5 hn ?_
  refine c_ld 6 hn ?_
  refine c_mv 7 hn ?_
  refine c_mv 8 hn ?_
  refine c_shi 9 hn ?_
  refine c_calltt 10 hn ?_ (he := en_spinney_roster_Of)
  refine c_mv 11 hn ?_
  refine c_mv 12 hn ?_
  refine c_slo 13 hn ?_
  refine c_calltt 14 hn ?_ (he := en_spinney_roster_Of)
  refine c_ld 15 hn ?_
  refine c_bn 16 hn ?_
  refine c_an 17 hn ?_
  refine c_mv 18 hn ?_
  refine c_ld 19 hn ?_
  refine c_mv 20 hn ?_
  refine c_mv 21 hn ?_
  refine c_shi 22 hn ?_
  refine c_calltt 23 hn ?_ (he := en_spinney_roster_Of)
  refine c_ld 24 hn ?_
  refine c_mv 25 hn ?_
  refine c_mv 26 hn ?_
  refine c_slo 27 hn ?_
  refine c_calltt 28 hn ?_ (he := en_spinney_roster_Of)
  refine c_calltt 29 hn ?_ (he := en_spinney_roster_Join)
  refine c_ld 30 hn ?_
  refine c_bn 31 hn ?_
  refine c_an 32 hn ?_
  refine c_mv 33 hn ?_
  refine c_ld 34 hn ?_
  refine c_ld 35 hn ?_
  refine c_calltt 36 hn ?_ (he := en_spinney_roster_Covers)
  refine c_an 37 hn ?_
  refine c_as 38 hn ?_
  refine fc_end (fun w10 hS10 => ?_)
  clear hn
  subst ha
  dsimp only [fr, cnd, Act.put, cond_true]
  simp only [List.setIfInBounds_toArray, List.set_cons_zero, List.set_cons_succ]
  have hB10 : Below b w w10 := hB9.trans (hS10.below.mono (by have := hB9.size; omega))
  obtain ⟨p1, p2, p3, p4⟩ := order_true hl ws k
  have R : Hid ((decide (ofL l (ws.drop k ++ ws.take k) = ofL l ws) && decide (ofL (ofL l (ws.take k)) (ws.drop k) = ofL l ws) && decide (joinL (ofL l (ws.take k)) (ofL l (ws.drop k)) = ofL l ws) && covB (ofL l ws) l) = true) := by
    show _ = true
    rw [p4, decide_eq_true p1, decide_eq_true p2, decide_eq_true p3]
    rfl
  clear l1 l2 s1 s2 c1 c2 c3 c4 c5 c6 e1 e2 e3 p1 p2 p3 p4 hX0' hX6 hRa hR9 hB9 hS10
  go_wp2_with fail
  go_ret
  exact ⟨ret_bool R.out, by first | exact hB10 | (rw [hb]; exact hB10)⟩
theorem rosterOrder_all (x0 x1 x2 x3 x4 x5 x6 x7 x8 x9 x10 x11 : Int) (A : Option Addr) (n c : Nat) (ws : List Wr) (by0 : Int) (w : World) (hn : ws.length = n) (hr : RdW w.heap.size w A ws) (hm : n ≤ maxLen) (hc : n ≤ c) (hf : ∀ x, x ∈ ws → x.fits) (_ : -9223372036854775808 ≤ by0 ∧ by0 ≤ 9223372036854775807) : Calls Try.prog 6 #[.agg (laI x0 x1 x2 x3 x4 x5 x6 x7 x8 x9 x10 x11), .slice A n c, .int .i64 by0] w fun e w' => e = .returned (.bool true) ∧ Below w.heap.size w w' := lawOrder_all (laL x0 x1 x2 x3 x4 x5 x6 x7 x8 x9 x10 x11) A n c ws by0 w rfl hn hr hm hf hc
end Go.Proofs.Ytgbopikhdpmmcaa
