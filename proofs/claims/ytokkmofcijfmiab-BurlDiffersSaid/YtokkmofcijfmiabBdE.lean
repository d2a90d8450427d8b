/-
  WHAT IS PROVED: the law BurlDiffers. Conditions: those typed in each theorem.
-/
import Derived.Test.YtokkmofcijfmiabBdC
import Derived.Test.YtokkmofcijfmiabBdD
import Derived.Test.YtokkmofcijfmiabRRefGood
namespace Go.Proofs.Ytokkmofcijfmiab
open Go.RowKit

theorem en_spinney_spinneylaw28_BurlDiffers : ∀ args w, (callFunc 3 args).run Try.prog w = .ok (.enter 3 args) w := enters_of Try.func3 (by kernel_rfl) rfl

theorem partsOf_self (a : List Cl) : partsOf a a = [] := by unfold partsOf parts; rw [if_pos rfl]
theorem diffK_self (a : List Cl) (k : ByteArray) : ¬ DiffK a a k := fun h => h.2.2 rfl
set_option maxRecDepth 100000 in
set_option maxHeartbeats 4000000 in
theorem burlDiffers_m1 (A : Option Addr) (n c : Nat) (A2 : Option Addr) (m d : Nat) (w : World) (hs : 60 < n) : Calls Try.prog 3 #[.slice A n c, .slice A2 m d] w fun e w' => e = .returned (.bool true) ∧ Below w.heap.size w w' := by
  have i1 : (60 : Int) < (n : Int) := by omega
  go_enter Try.func3, Try.ntmps3
  go_wp2_with fail
  refine (awake28_any w).mono ?_
  rintro e w1 ⟨rfl, hb1⟩
  go_wp2_with fail
  refine (awake28_any _).mono ?_
  rintro e w9 ⟨rfl, hb9⟩
  go_wp2_with fail
  go_ret
  exact ⟨rfl, hb1.trans (hb9.mono hb1.size)⟩
set_option maxRecDepth 100000 in
set_option maxHeartbeats 4000000 in
theorem burlDiffers_m2 (A : Option Addr) (n c : Nat) (A2 : Option Addr) (m d : Nat) (w : World) (hs : n ≤ 60) (hs2 : 60 < m) : Calls Try.prog 3 #[.slice A n c, .slice A2 m d] w fun e w' => e = .returned (.bool true) ∧ Below w.heap.size w w' := by
  have i1 : ¬ (60 : Int) < (n : Int) := by omega
  have i2 : (60 : Int) < (m : Int) := by omega
  go_enter Try.func3, Try.ntmps3
  go_wp2_with fail
  refine (awake28_any w).mono ?_
  rintro e w1 ⟨rfl, hb1⟩
  go_wp2_with fail
  refine (awake28_any _).mono ?_
  rintro e w9 ⟨rfl, hb9⟩
  go_wp2_with fail
  go_ret
  exact ⟨rfl, hb1.trans (hb9.mono hb1.size)⟩
set_option maxRecDepth 100000 in
set_option maxHeartbeats 4000000 in
theorem burlDiffers_b1 (A : Option Addr) (n c : Nat) (A2 : Option Addr) (m d : Nat) (a b : List Cl) (w : World) (hn : a.length = n) (hr : RdX 4 w.heap.size w A (a.map Cl.cells)) (hm : n ≤ 60) (hf : ∀ x, x ∈ a → x.fits) (hn2 : b.length = m) (hr2 : RdX 4 w.heap.size w A2 (b.map Cl.cells)) (hm2 : m ≤ 60) (hf2 : ∀ x, x ∈ b → x.fits) (hg : goodCls a = false) : Calls Try.prog 3 #[.slice A n c, .slice A2 m d] w fun e w' => e = .returned (.bool true) ∧ Below w.heap.size w w' := by
  have i1 : ¬ (60 : Int) < (n : Int) := by omega
  have i2 : ¬ (60 : Int) < (m : Int) := by omega
  have HR := Lib.hid (fun W (h : Below w.heap.size w W) => (hr.keep (W' := W) h (Nat.le_refl _)).more h.size)
  have HR2 := Lib.hid (fun W (h : Below w.heap.size w W) => (hr2.keep (W' := W) h (Nat.le_refl _)).more h.size)
  go_enter Try.func3, Try.ntmps3
  go_wp2_with fail
  refine (awake28_any w).mono ?_
  rintro e w1 ⟨rfl, hb1⟩
  go_upto_region 3 with fail
  refine wp_region_lit ?_
  refine fl_start ?_
  generalize ha : Act.mk _ _ = a0
  have hn0 : a0.tmps.size = 83 := by rw [← ha]; kernel_rfl
  have h0 : (fr a0 []).eval (.tmp 0) = .slice A n c := by rw [← ha]; kernel_rfl
  refine fl_know hn0 rfl h0 ?_
  clear h0
  have h1 : (fr a0 [(0, true, .slice A n c)]).eval (.tmp 1) = .slice A2 m d := by rw [← ha]; kernel_rfl
  refine fl_know hn0 rfl h1 ?_
  clear h1
  refine g_mv hn0 ?_
  refine g_mv hn0 ?_
  refine g_c2x en_spinney_burl_Differ hn0 (R := fun v wz => v = .tuple #[.slice none 0 0, .int .i64 2] ∧ Below w1.heap.size w1 wz) ((differ_bad1 A n c A2 m d a b w1 hn (HR.out w1 hb1) (by omega) hf hn2 (HR2.out w1 hb1) (by omega) hf2 hg).mono fun _ _ ⟨he, hb⟩ => ⟨_, he, rfl, hb⟩) ?_
  rintro v w2 ⟨rfl, hb2⟩
  refine g_mv hn0 ?_
  refine g_ex hn0 ?_
  refine g_ex hn0 ?_
  refine g_as hn0 ?_
  refine g_as hn0 ?_
  refine fl_end ?_
  clear hn0
  subst ha
  dsimp only [fr, cnd, Act.put, cond_true]
  simp only [List.setIfInBounds_toArray, List.set_cons_zero, List.set_cons_succ]
  have hB2 : Below w.heap.size w w2 := hb1.trans (hb2.mono hb1.size)
  have cGw3 := refGoodCs_any A n c a w2 hn (HR.out w2 hB2) (Nat.le_refl _) (Nat.le_trans hm (by decide)) hf
  rw [hg] at cGw3
  go_wp2_with fail
  refine cGw3.mono ?_
  rintro e w3 ⟨rfl, hbw3⟩
  have hB3 : Below w.heap.size w w3 := hB2.trans (hbw3.mono hB2.size)
  go_wp2_with fail
  go_ret
  exact ⟨rfl, hB3⟩
set_option maxRecDepth 100000 in
set_option maxHeartbeats 4000000 in
theorem burlDiffers_b2 (A : Option Addr) (n c : Nat) (A2 : Option Addr) (m d : Nat) (a b : List Cl) (w : World) (hn : a.length = n) (hr : RdX 4 w.heap.size w A (a.map Cl.cells)) (hm : n ≤ 60) (hf : ∀ x, x ∈ a → x.fits) (hn2 : b.length = m) (hr2 : RdX 4 w.heap.size w A2 (b.map Cl.cells)) (hm2 : m ≤ 60) (hf2 : ∀ x, x ∈ b → x.fits) (hg : goodCls a = true) (hg2 : goodCls b = false) : Calls Try.prog 3 #[.slice A n c, .slice A2 m d] w fun e w' => e = .returned (.bool true) ∧ Below w.heap.size w w' := by
  have i1 : ¬ (60 : Int) < (n : Int) := by omega
  have i2 : ¬ (60 : Int) < (m : Int) := by omega
  have HR := Lib.hid (fun W (h : Below w.heap.size w W) => (hr.keep (W' := W) h (Nat.le_refl _)).more h.size)
  have HR2 := Lib.hid (fun W (h : Below w.heap.size w W) => (hr2.keep (W' := W) h (Nat.le_refl _)).more h.size)
  go_enter Try.func3, Try.ntmps3
  go_wp2_with fail
  refine (awake28_any w).mono ?_
  rintro e w1 ⟨rfl, hb1⟩
  go_upto_region 3 with fail
  refine wp_region_lit ?_
  refine fl_start ?_
  generalize ha : Act.mk _ _ = a0
  have hn0 : a0.tmps.size = 83 := by rw [← ha]; kernel_rfl
  have h0 : (fr a0 []).eval (.tmp 0) = .slice A n c := by rw [← ha]; kernel_rfl
  refine fl_know hn0 rfl h0 ?_
  clear h0
  have h1 : (fr a0 [(0, true, .slice A n c)]).eval (.tmp 1) = .slice A2 m d := by rw [← ha]; kernel_rfl
  refine fl_know hn0 rfl h1 ?_
  clear h1
  refine g_mv hn0 ?_
  refine g_mv hn0 ?_
  refine g_c2x en_spinney_burl_Differ hn0 (R := fun v wz => v = .tuple #[.slice none 0 0, .int .i64 2] ∧ Below w1.heap.size w1 wz) ((differ_bad2 A n c A2 m d a b w1 hn (HR.out w1 hb1) (by omega) hf hn2 (HR2.out w1 hb1) (by omega) hf2 hg hg2).mono fun _ _ ⟨he, hb⟩ => ⟨_, he, rfl, hb⟩) ?_
  rintro v w2 ⟨rfl, hb2⟩
  refine g_mv hn0 ?_
  refine g_ex hn0 ?_
  refine g_ex hn0 ?_
  refine g_as hn0 ?_
  refine g_as hn0 ?_
  refine fl_end ?_
  clear hn0
  subst ha
  dsimp only [fr, cnd, Act.put, cond_true]
  simp only [List.setIfInBounds_toArray, List.set_cons_zero, List.set_cons_succ]
  have hB2 : Below w.heap.size w w2 := hb1.trans (hb2.mono hb1.size)
  have cGw3 := refGoodCs_any A n c a w2 hn (HR.out w2 hB2) (Nat.le_refl _) (Nat.le_trans hm (by decide)) hf
  rw [hg] at cGw3
  go_wp2_with fail
  refine cGw3.mono ?_
  rintro e w3 ⟨rfl, hbw3⟩
  have hB3 : Below w.heap.size w w3 := hB2.trans (hbw3.mono hB2.size)
  have cGw4 := refGoodCs_any A2 m d b w3 hn2 (HR2.out w3 hB3) (Nat.le_refl _) (Nat.le_trans hm2 (by decide)) hf2
  rw [hg2] at cGw4
  go_wp2_with fail
  refine cGw4.mono ?_
  rintro e w4 ⟨rfl, hbw4⟩
  have hB4 : Below w.heap.size w w4 := hB3.trans (hbw4.mono hB3.size)
  go_wp2_with fail
  go_ret
  exact ⟨rfl, hB4⟩
set_option maxRecDepth 100000 in
set_option maxHeartbeats 4000000 in
theorem burlDiffers_go (A : Option Addr) (n c : Nat) (A2 : Option Addr) (m d : Nat) (a b : List Cl) (w : World) (hn : a.length = n) (hr : RdX 4 w.heap.size w A (a.map Cl.cells)) (hm : n ≤ 60) (hf : ∀ x, x ∈ a → x.fits) (hn2 : b.length = m) (hr2 : RdX 4 w.heap.size w A2 (b.map Cl.cells)) (hm2 : m ≤ 60) (hf2 : ∀ x, x ∈ b → x.fits) (hg : goodCls a = true) (hg2 : goodCls b = true) : Calls Try.prog 3 #[.slice A n c, .slice A2 m d] w fun e w' => e = .returned (.bool true) ∧ Below w.heap.size w w' := by
  have i1 : ¬ (60 : Int) < (n : Int) := by omega
  have i2 : ¬ (60 : Int) < (m : Int) := by omega
  have HR := Lib.hid (fun W (h : Below w.heap.size w W) => (hr.keep (W' := W) h (Nat.le_refl _)).more h.size)
  have HR2 := Lib.hid (fun W (h : Below w.heap.size w W) => (hr2.keep (W' := W) h (Nat.le_refl _)).more h.size)
  have HN := Lib.hid hn
  have HN2 := Lib.hid hn2
  go_enter Try.func3, Try.ntmps3
  go_wp2_with fail
  refine (awake28_any w).mono ?_
  rintro e w1 ⟨rfl, hb1⟩
  go_upto_region 3 with fail
  refine wp_region_lit ?_
  refine fl_start ?_
  generalize ha : Act.mk _ _ = a0
  have hn0 : a0.tmps.size = 83 := by rw [← ha]; kernel_rfl
  have h0 : (fr a0 []).eval (.tmp 0) = .slice A n c := by rw [← ha]; kernel_rfl
  refine fl_know hn0 rfl h0 ?_
  clear h0
  have h1 : (fr a0 [(0, true, .slice A n c)]).eval (.tmp 1) = .slice A2 m d := by rw [← ha]; kernel_rfl
  refine fl_know hn0 rfl h1 ?_
  clear h1
  refine g_mv hn0 ?_
  refine g_mv hn0 ?_
  refine g_c2x en_spinney_burl_Differ hn0 (R := fun v wz => ∃ A3 n3 c3 R, v = .tuple #[.slice A3 n3 c3, .int .i64 0] ∧ (R.length = n3 ∧ RdS wz.heap.size wz A3 R ∧ n3 ≤ 100000 ∧ RiseS R ∧ ∀ k, k ∈ R ↔ DiffK a b k) ∧ Below w1.heap.size w1 wz) ((differ_good A n c A2 m d a b w1 hn (HR.out w1 hb1) (by omega) hf hn2 (HR2.out w1 hb1) (by omega) hf2 hg hg2).mono fun _ _ ⟨⟨A3, n3, c3, R, he, h⟩, hb⟩ => ⟨_, he, A3, n3, c3, R, rfl, h, hb⟩) ?_
  rintro v w2 ⟨A3, n3, c3, R, rfl, ⟨hl3, hr3, hn3, hri, hme⟩, hb2⟩
  refine g_mv hn0 ?_
  refine g_ex hn0 ?_
  refine g_ex hn0 ?_
  refine g_as hn0 ?_
  refine g_as hn0 ?_
  refine fl_end ?_
  clear hn0
  subst ha
  dsimp only [fr, cnd, Act.put, cond_true]
  simp only [List.setIfInBounds_toArray, List.set_cons_zero, List.set_cons_succ]
  have hB2 : Below w.heap.size w w2 := hb1.trans (hb2.mono hb1.size)
  have HRI := Lib.hid hri
  have HME := Lib.hid hme
  clear hri hme hb2 hr hr2
  have cGw3 := refGoodCs_any A n c a w2 hn (HR.out w2 hB2) (Nat.le_refl _) (Nat.le_trans hm (by decide)) hf
  rw [hg] at cGw3
  go_wp2_with fail
  refine cGw3.mono ?_
  rintro e w3 ⟨rfl, hbw3⟩
  have hB3 : Below w.heap.size w w3 := hB2.trans (hbw3.mono hB2.size)
  have cGw4 := refGoodCs_any A2 m d b w3 hn2 (HR2.out w3 hB3) (Nat.le_refl _) (Nat.le_trans hm2 (by decide)) hf2
  rw [hg2] at cGw4
  go_wp2_with fail
  refine cGw4.mono ?_
  rintro e w4 ⟨rfl, hbw4⟩
  have hB4 : Below w.heap.size w w4 := hB3.trans (hbw4.mono hB3.size)
  have hW4 : Below w2.heap.size w2 w4 := hbw3.trans (hbw4.mono hbw3.size)
  clear hbw3 hbw4 cGw3 cGw4 hB3 hB2 hb1 hn hn2
  go_wp2_with fail
  go_loopw [47] (fun i wr => ∃ k : Nat, k ≤ n3 ∧ i = .int .i64 k ∧ Below w2.heap.size w2 wr ∧ Below w.heap.size w wr) (fun i _ => n3 - (intOf i).toNat)
  case atStart => exact ⟨0, Nat.zero_le _, rfl, hW4, hB4⟩
  case round =>
    clear hW4 hB4
    obtain ⟨k, hk, rfl, hW, hB⟩ := hrel
    by_cases hlt : k < n3
    · obtain ⟨x, hx⟩ : ∃ x, R[k]? = some x := ⟨_, List.getElem?_eq_getElem (by omega)⟩
      obtain ⟨ad, rfl, hbk, hc⟩ := hr3 k x hx
      have hD := (HME.out x).1 (List.mem_of_getElem? hx)
      have c0 : wr.cell? (ad.add k) = some (.string x) := (hW.cell (by rw [add_block]; exact hbk)).trans hc
      have ix := six wr ad n3 c3 k hlt
      have l0 := ld_str c0
      have i5 : (k : Int) < (n3 : Int) := by omega
      clear hc hx c0
      go_upto_region 8 with fail
      refine wp_region_lit ?_
      refine fl_start ?_
      generalize ha : Act.mk _ _ = a0
      have hn0 : a0.tmps.size = 83 := by rw [← ha]; kernel_rfl
      have h45 : (fr a0 []).eval (.tmp 45) = .slice (some ad) n3 c3 := by rw [← ha]; kernel_rfl
      refine fl_know hn0 rfl h45 ?_
      clear h45
      have h47 : (fr a0 [(45, true, .slice (some ad) n3 c3)]).eval (.tmp 47) = .int .i64 (k : Int) := by rw [← ha]; kernel_rfl
      refine fl_know hn0 rfl h47 ?_
      clear h47
      refine g_ix hn0 ?_
      refine g_ld hn0 ?_
      refine g_as hn0 ?_
      refine fl_end ?_
      clear hn0 ix l0
      subst ha
      dsimp only [fr, cnd, Act.put, cond_true]
      simp only [List.setIfInBounds_toArray, List.set_cons_zero, List.set_cons_succ]
      go_upto_region 9 with fail
      refine wp_region_lit ?_
      refine fl_start ?_
      generalize ha : Act.mk _ _ = a0
      have hn0 : a0.tmps.size = 83 := by rw [← ha]; kernel_rfl
      have h0 : (fr a0 []).eval (.tmp 0) = .slice A n c := by rw [← ha]; kernel_rfl
      refine fl_know hn0 rfl h0 ?_
      clear h0
      have h1 : (fr a0 [(0, true, .slice A n c)]).eval (.tmp 1) = .slice A2 m d := by rw [← ha]; kernel_rfl
      refine fl_know hn0 rfl h1 ?_
      clear h1
      have h8 : (fr a0 [(1, true, .slice A2 m d), (0, true, .slice A n c)]).eval (.tmp 8) = .string x := by rw [← ha]; kernel_rfl
      refine fl_know hn0 rfl h8 ?_
      clear h8
      refine g_mv hn0 ?_
      refine g_mv hn0 ?_
      refine g_c2x en_spinney_spinneyref12_At hn0 (R := fun v wz => v = .agg #[.int .i64 (atV x a).1, .int .i64 (atV x a).2.1, .string (atV x a).2.2] ∧ Below wr.heap.size wr wz) ((refAt_any A n c a x wr HN.out (HR.out wr hB) (by omega)).mono fun _ _ ⟨he, hb3⟩ => ⟨_, he, rfl, hb3⟩) ?_
      rintro v w5 ⟨rfl, hb5⟩
      have hB5 : Below w.heap.size w w5 := hB.trans (hb5.mono hB.size)
      refine g_mv hn0 ?_
      refine g_mv hn0 ?_
      refine g_c2x en_spinney_spinneyref12_At hn0 (R := fun v wz => v = .agg #[.int .i64 (atV x b).1, .int .i64 (atV x b).2.1, .string (atV x b).2.2] ∧ Below w5.heap.size w5 wz) ((refAt_any A2 m d b x w5 HN2.out (HR2.out w5 hB5) (by omega)).mono fun _ _ ⟨he, hb3⟩ => ⟨_, he, rfl, hb3⟩) ?_
      rintro v w6 ⟨rfl, hb6⟩
      refine g_bn hn0 ?_ (v := .bool false) (hr := val_eqN _ _ _ _ hD.2.2 _)
      refine fl_end ?_
      clear hn0
      subst ha
      dsimp only [fr, cnd, Act.put, cond_true]
      simp only [List.setIfInBounds_toArray, List.set_cons_zero, List.set_cons_succ]
      have hB6 : Below w.heap.size w w6 := hB5.trans (hb6.mono hB5.size)
      have hW6 : Below w2.heap.size w2 w6 := (hW.trans (hb5.mono hW.size)).trans (hb6.mono (by have := hb5.size; have := hW.size; omega))
      clear hD hW hB hb5 hb6 hB5
      go_wp2_with fail
      refine ⟨?_, ?_⟩
      · first
        | exact ⟨k + 1, by omega, by go_num, hW6, hB6⟩
        | repeat apply Exists.intro
          refine ⟨?_, rfl⟩
          exact ⟨k + 1, by omega, by go_num, hW6, hB6⟩
      · simp [intOf]; omega
    · have i5 : ¬ (k : Int) < (n3 : Int) := by omega
      go_upto_region 12 with fail
      refine wp_region_lit ?_
      refine fl_start ?_
      generalize ha : Act.mk _ _ = a0
      have hn0 : a0.tmps.size = 83 := by rw [← ha]; kernel_rfl
      have h0 : (fr a0 []).eval (.tmp 0) = .slice A n c := by rw [← ha]; kernel_rfl
      refine fl_know hn0 rfl h0 ?_
      clear h0
      refine g_mv hn0 ?_
      refine g_mv hn0 ?_
      refine g_c2x en_spinney_burl_Differ hn0 (R := fun v wz => ∃ A5 c5, v = .tuple #[.slice A5 0 c5, .int .i64 0] ∧ Below wr.heap.size wr wz) ((differ_good A n c A n c a a wr HN.out (HR.out wr hB) (by omega) hf HN.out (HR.out wr hB) (by omega) hf hg hg).mono fun _ _ ⟨⟨A5, n5, c5, R5, he, h5, _, _, _, h6⟩, hb⟩ => by
        have h7 : R5 = [] := List.eq_nil_iff_forall_not_mem.2 fun x hx => diffK_self a x ((h6 x).1 hx)
        rw [h7] at h5
        have h8 : n5 = 0 := h5.symm
        subst h8
        exact ⟨_, he, A5, c5, rfl, hb⟩) ?_
      rintro v w5 ⟨A5, c5, rfl, hb5⟩
      refine g_mv hn0 ?_
      refine g_ex hn0 ?_
      refine g_ex hn0 ?_
      refine g_as hn0 ?_
      refine g_as hn0 ?_
      refine fl_end ?_
      clear hn0
      subst ha
      dsimp only [fr, cnd, Act.put, cond_true]
      simp only [List.setIfInBounds_toArray, List.set_cons_zero, List.set_cons_succ]
      have hB5 : Below w.heap.size w w5 := hB.trans (hb5.mono hB.size)
      have hW5 : Below w2.heap.size w2 w5 := hW.trans (hb5.mono hW.size)
      go_upto_region 13 with fail
      refine wp_region_lit ?_
      refine fl_start ?_
      generalize ha : Act.mk _ _ = a0
      have hn0 : a0.tmps.size = 83 := by rw [← ha]; kernel_rfl
      have h0 : (fr a0 []).eval (.tmp 0) = .slice A n c := by rw [← ha]; kernel_rfl
      refine fl_know hn0 rfl h0 ?_
      clear h0
      have h1 : (fr a0 [(0, true, .slice A n c)]).eval (.tmp 1) = .slice A2 m d := by rw [← ha]; kernel_rfl
      refine fl_know hn0 rfl h1 ?_
      clear h1
      have h5 : (fr a0 [(1, true, .slice A2 m d), (0, true, .slice A n c)]).eval (.tmp 5) = .slice A3 n3 c3 := by rw [← ha]; kernel_rfl
      refine fl_know hn0 rfl h5 ?_
      clear h5
      have h6 : (fr a0 [(5, true, .slice A3 n3 c3), (1, true, .slice A2 m d), (0, true, .slice A n c)]).eval (.tmp 6) = .int .i64 0 := by rw [← ha]; kernel_rfl
      refine fl_know hn0 rfl h6 ?_
      clear h6
      have h9 : (fr a0 [(6, true, .int .i64 0), (5, true, .slice A3 n3 c3), (1, true, .slice A2 m d), (0, true, .slice A n c)]).eval (.tmp 9) = .slice A5 0 c5 := by rw [← ha]; kernel_rfl
      refine fl_know hn0 rfl h9 ?_
      clear h9
      have h10 : (fr a0 [(9, true, .slice A5 0 c5), (6, true, .int .i64 0), (5, true, .slice A3 n3 c3), (1, true, .slice A2 m d), (0, true, .slice A n c)]).eval (.tmp 10) = .int .i64 0 := by rw [← ha]; kernel_rfl
      refine fl_know hn0 rfl h10 ?_
      clear h10
      refine g_mv hn0 ?_
      refine g_bc hn0 ?_ (v := .bool true) (hr := er_eql _ 0 0 _)
      refine g_mv hn0 ?_
      refine g_mv hn0 ?_
      refine g_mv hn0 ?_
      refine g_mv hn0 ?_
      refine g_c2x en_spinney_spinneyref28_Differ hn0 (R := fun v wz => ∃ A7 c7, v = .slice A7 n3 c7 ∧ RdS wz.heap.size wz A7 R ∧ Below w5.heap.size w5 wz) ((refDiffer_good A n c A2 m d a b w5 HN.out (HR.out w5 hB5) (by omega) hf HN2.out (HR2.out w5 hB5) (by omega) hf2 hg hg2).mono fun _ _ ⟨⟨A7, n7, c7, R7, he, h7, h8, h9, h10⟩, hb⟩ => by
        have h11 : R7 = R := riseS_ext _ _ h9 HRI.out fun x => (h10 x).trans (HME.out x).symm
        subst h11
        have h12 : n7 = n3 := h7.symm.trans hl3
        subst h12
        exact ⟨_, he, A7, c7, rfl, h8, hb⟩) ?_
      rintro v w7 ⟨A7, c7, rfl, hr7, hb7⟩
      have hW7 : Below w2.heap.size w2 w7 := hW5.trans (hb7.mono hW5.size)
      refine g_c2x en_slices_Equal_string_string hn0 (R := fun v wz => v = .bool true ∧ Below w7.heap.size w7 wz) ((eqS_same A3 n3 c3 A7 c7 R w7 hl3 (hr3.keep hW7 (Nat.le_refl _)) hr7 hW7.size (Nat.le_refl _) (by omega)).mono fun _ _ ⟨he, hb3⟩ => ⟨_, he, rfl, hb3⟩) ?_
      rintro v w8 ⟨rfl, hb8⟩
      refine g_an hn0 ?_
      refine g_mv hn0 ?_
      refine g_mv hn0 ?_
      refine g_bc hn0 ?_ (v := .bool true) (hr := er_eql _ 0 0 _)
      refine g_an hn0 ?_
      refine g_mv hn0 ?_
      refine g_mv hn0 ?_
      refine g_ln hn0 ?_
      refine g_eql hn0 ?_
      refine g_an hn0 ?_
      refine g_as hn0 ?_
      refine fl_end ?_
      clear hn0
      subst ha
      dsimp only [fr, cnd, Act.put, cond_true]
      simp only [List.setIfInBounds_toArray, List.set_cons_zero, List.set_cons_succ]
      have hB7 : Below w.heap.size w w7 := hB5.trans (hb7.mono hB5.size)
      go_wp2_with fail
      go_ret
      exact ⟨rfl, hB7.trans (hb8.mono hB7.size)⟩
theorem burlDiffers_all (A : Option Addr) (n c : Nat) (a : List Cl) (A2 : Option Addr) (m d : Nat) (b : List Cl) (w : World) (hn : a.length = n) (hr : RdX 4 w.heap.size w A (a.map Cl.cells)) (_ : n ≤ maxLen) (hf : ∀ x, x ∈ a → x.fits) (hn2 : b.length = m) (hr2 : RdX 4 w.heap.size w A2 (b.map Cl.cells)) (_ : m ≤ maxLen) (hf2 : ∀ x, x ∈ b → x.fits) :
    Calls Try.prog 3 #[.slice A n c, .slice A2 m d] w fun e w' => e = .returned (.bool true) ∧ Below w.heap.size w w' := by
  by_cases hs : 60 < n
  · exact burlDiffers_m1 A n c A2 m d w hs
  by_cases hs2 : 60 < m
  · exact burlDiffers_m2 A n c A2 m d w (by omega) hs2
  cases hg : goodCls a with
  | false => exact burlDiffers_b1 A n c A2 m d a b w hn hr (by omega) hf hn2 hr2 (by omega) hf2 hg
  | true =>
    cases hg2 : goodCls b with
    | false => exact burlDiffers_b2 A n c A2 m d a b w hn hr (by omega) hf hn2 hr2 (by omega) hf2 hg hg2
    | true => exact burlDiffers_go A n c A2 m d a b w hn hr (by omega) hf hn2 hr2 (by omega) hf2 hg hg2
end Go.Proofs.Ytokkmofcijfmiab
