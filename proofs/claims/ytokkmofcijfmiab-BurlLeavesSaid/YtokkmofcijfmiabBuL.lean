/-
  WHAT IS PROVED: the law BurlLeaves. Conditions: those typed in each theorem.
-/
import Derived.Test.YtokkmofcijfmiabBuK
namespace Go.Proofs.Ytokkmofcijfmiab
open Go.RowKit

theorem en_spinney_spinneylaw28_BurlLeaves : ∀ args w, (callFunc 4 args).run Try.prog w = .ok (.enter 4 args) w := enters_of Try.func4 (by kernel_rfl) rfl

/-- A leaf's sum. -/
def sumL (l : List Cl) : Nat := l.foldl (fun s c => (s + shrC c) % 18446744073709551616) 0
theorem sumL_snoc (l : List Cl) (c : Cl) : sumL (l ++ [c]) = (sumL l + shrC c) % 18446744073709551616 := by unfold sumL; rw [List.foldl_append, List.foldl_cons, List.foldl_nil]
theorem acc_sum (l : List Cl) {j : Nat} (hj : j < 16) : ∀ k, k ≤ l.length → acc l j k = sumL (atL (l.take k) (j : Int)) := by
  intro k
  induction k with
  | zero =>
    intro _
    rw [acc_zero l hj, List.take_zero]
    rfl
  | succ k ih =>
    intro hk
    have hx : l[k]? = some l[k] := List.getElem?_eq_getElem (by omega)
    generalize l[k] = c at hx
    have h := ih (by omega)
    by_cases he : leafL c.ky.data.toList = j
    · have e2 : (((leafL c.ky.data.toList : Nat) : Int) == (j : Int)) = true := by rw [he]; simp
      rw [acc_hit hj hx he, atL_next _ hx, if_pos e2, sumL_snoc, h]
    · have e2 : ¬ (((leafL c.ky.data.toList : Nat) : Int) == (j : Int)) = true := by
        intro h2
        have h3 : ((leafL c.ky.data.toList : Nat) : Int) = (j : Int) := by simpa using h2
        omega
      rw [acc_miss hx he, atL_next _ hx, if_neg e2, h]
theorem lv_at (l : List Cl) {j : Nat} (hj : j < 16) : (lvTo l)[j]? = some (sumL (atL l (j : Int))) := by
  rw [acc_all l hj, acc_sum l hj _ (Nat.le_refl _), List.take_length]
theorem parts_mem {r r2 : Nat} {L L2 : List Nat} {x : Int} (h : x ∈ parts r r2 L L2) : ∃ k : Nat, k < 16 ∧ x = (k : Int) ∧ L[k]? ≠ L2[k]? := by
  unfold parts at h
  split at h
  · simp at h
  · obtain ⟨k, hk, rfl⟩ := List.mem_map.1 h
    rw [List.mem_filter] at hk
    exact ⟨k, by simpa using hk.1, rfl, by simpa using hk.2⟩
theorem parts_un {a b : List Cl} {x : Int} (h : x ∈ parts (rootL (lvTo a)) (rootL (lvTo b)) (lvTo a) (lvTo b)) : ∃ k : Nat, k < 16 ∧ x = (k : Int) ∧ atL a (k : Int) ≠ atL b (k : Int) := by
  obtain ⟨k, hk, hx, hne⟩ := parts_mem h
  refine ⟨k, hk, hx, fun e => hne ?_⟩
  rw [lv_at a hk, lv_at b hk, e]
theorem parts_self (r : Nat) (L : List Nat) : parts r r L L = [] := by unfold parts; rw [if_pos rfl]
/-- How many cells the first leaves have. -/
def cnt (l : List Cl) : Nat → Nat
  | 0 => 0
  | k + 1 => cnt l k + (atL l (k : Int)).length
theorem cnt_nil : ∀ k, cnt [] k = 0
  | 0 => rfl
  | k + 1 => by
    show cnt [] k + (atL [] (k : Int)).length = 0
    rw [cnt_nil k]
    rfl
theorem cnt_cons (c : Cl) (r : List Cl) : ∀ k, cnt (c :: r) k = cnt r k + (if leafL c.ky.data.toList < k then 1 else 0)
  | 0 => by simp [cnt]
  | k + 1 => by
    show cnt (c :: r) k + (atL (c :: r) (k : Int)).length = cnt r k + (atL r (k : Int)).length + _
    rw [cnt_cons c r k]
    by_cases he : leafL c.ky.data.toList = k
    · have e2 : (((leafL c.ky.data.toList : Nat) : Int) == (k : Int)) = true := by rw [he]; simp
      have e3 : atL (c :: r) (k : Int) = c :: atL r (k : Int) := by unfold atL; rw [List.filter_cons, if_pos e2]
      rw [e3, List.length_cons, if_neg (by omega), if_pos (by omega)]
      omega
    · have e2 : ¬ (((leafL c.ky.data.toList : Nat) : Int) == (k : Int)) = true := by
        intro h2
        have h3 : ((leafL c.ky.data.toList : Nat) : Int) = (k : Int) := by simpa using h2
        omega
      have e3 : atL (c :: r) (k : Int) = atL r (k : Int) := by unfold atL; rw [List.filter_cons, if_neg e2]
      rw [e3]
      by_cases h1 : leafL c.ky.data.toList < k
      · rw [if_pos h1, if_pos (by omega)]
        omega
      · rw [if_neg h1, if_neg (by omega)]
        omega
theorem cnt_all : ∀ l : List Cl, cnt l 16 = l.length
  | [] => cnt_nil 16
  | c :: r => by
    rw [cnt_cons, cnt_all r, if_pos (leafL_lt _), List.length_cons]
theorem cnt_le (l : List Cl) : ∀ k, cnt l k ≤ k * l.length
  | 0 => by simp [cnt]
  | k + 1 => by
    show cnt l k + (atL l (k : Int)).length ≤ (k + 1) * l.length
    have h1 := cnt_le l k
    have h2 := atL_len l (k : Int)
    rw [Nat.succ_mul]
    omega
theorem in_eq28 (i j : Nat) (m : Int) (W : World) : ((do eqGuard .eql 3 (.tmp i) (.tmp j) (.int .i64 m) (.int .i64 m); binOp .eql 3 (.int .i64 m) (.int .i64 m)) : Sem Value).run Try.prog W = .ok (.bool true) W := by go_simp
set_option maxRecDepth 100000 in
set_option maxHeartbeats 4000000 in
theorem burlLeaves_m1 (A : Option Addr) (n c : Nat) (A2 : Option Addr) (m d : Nat) (w : World) (hs : 60 < n) : Calls Try.prog 4 #[.slice A n c, .slice A2 m d] w fun e w' => e = .returned (.bool true) ∧ Below w.heap.size w w' := by
  have i1 : (60 : Int) < (n : Int) := by omega
  go_enter Try.func4, Try.ntmps4
  go_wp2_with fail
  refine (awake28_any w).mono ?_
  rintro e w1 ⟨rfl, hb1⟩
  go_wp2_with fail
  refine (awake28_any _).mono ?_
  rintro e w9 ⟨rfl, hb9⟩
  go_wp2_with fail
  go_ret
  exact ⟨rfl, hb1.trans (hb9.mono hb1.size)⟩
set_option maxRecDepth 100000 in
set_option maxHeartbeats 4000000 in
theorem burlLeaves_m2 (A : Option Addr) (n c : Nat) (A2 : Option Addr) (m d : Nat) (w : World) (hs : n ≤ 60) (hs2 : 60 < m) : Calls Try.prog 4 #[.slice A n c, .slice A2 m d] w fun e w' => e = .returned (.bool true) ∧ Below w.heap.size w w' := by
  have i1 : ¬ (60 : Int) < (n : Int) := by omega
  have i2 : (60 : Int) < (m : Int) := by omega
  go_enter Try.func4, Try.ntmps4
  go_wp2_with fail
  refine (awake28_any w).mono ?_
  rintro e w1 ⟨rfl, hb1⟩
  go_wp2_with fail
  refine (awake28_any _).mono ?_
  rintro e w9 ⟨rfl, hb9⟩
  go_wp2_with fail
  go_ret
  exact ⟨rfl, hb1.trans (hb9.mono hb1.size)⟩
set_option maxRecDepth 100000 in
set_option maxHeartbeats 4000000 in
theorem burlLeaves_b1 (A : Option Addr) (n c : Nat) (A2 : Option Addr) (m d : Nat) (a : List Cl) (w : World) (hn : a.length = n) (hr : RdX 4 w.heap.size w A (a.map Cl.cells)) (hm : n ≤ 60) (hf : ∀ x, x ∈ a → x.fits) (hm2 : m ≤ 60) (hg : goodCls a = false) : Calls Try.prog 4 #[.slice A n c, .slice A2 m d] w fun e w' => e = .returned (.bool true) ∧ Below w.heap.size w w' := by
  have i1 : ¬ (60 : Int) < (n : Int) := by omega
  have i2 : ¬ (60 : Int) < (m : Int) := by omega
  go_enter Try.func4, Try.ntmps4
  go_wp2_with fail
  refine (awake28_any w).mono ?_
  rintro e w1 ⟨rfl, hb1⟩
  have cG := refGoodCs_any A n c a w1 hn (hr.keep hb1 (Nat.le_refl _)) hb1.size (Nat.le_trans hm (by decide)) hf
  rw [hg] at cG
  go_wp2_with fail
  refine cG.mono ?_
  rintro e w2 ⟨rfl, hb2⟩
  have hB2 := hb1.trans (hb2.mono hb1.size)
  go_wp2_with fail
  refine (awake28_any _).mono ?_
  rintro e w9 ⟨rfl, hb9⟩
  go_wp2_with fail
  go_ret
  exact ⟨rfl, hB2.trans (hb9.mono hB2.size)⟩
set_option maxRecDepth 100000 in
set_option maxHeartbeats 4000000 in
theorem burlLeaves_b2 (A : Option Addr) (n c : Nat) (A2 : Option Addr) (m d : Nat) (a b2 : List Cl) (w : World) (hn : a.length = n) (hr : RdX 4 w.heap.size w A (a.map Cl.cells)) (hm : n ≤ 60) (hf : ∀ x, x ∈ a → x.fits) (hn2 : b2.length = m) (hr2 : RdX 4 w.heap.size w A2 (b2.map Cl.cells)) (hm2 : m ≤ 60) (hf2 : ∀ x, x ∈ b2 → x.fits) (hg : goodCls a = true) (hg2 : goodCls b2 = false) : Calls Try.prog 4 #[.slice A n c, .slice A2 m d] w fun e w' => e = .returned (.bool true) ∧ Below w.heap.size w w' := by
  have i1 : ¬ (60 : Int) < (n : Int) := by omega
  have i2 : ¬ (60 : Int) < (m : Int) := by omega
  go_enter Try.func4, Try.ntmps4
  go_wp2_with fail
  refine (awake28_any w).mono ?_
  rintro e w1 ⟨rfl, hb1⟩
  have cG := refGoodCs_any A n c a w1 hn (hr.keep hb1 (Nat.le_refl _)) hb1.size (Nat.le_trans hm (by decide)) hf
  rw [hg] at cG
  go_wp2_with fail
  refine cG.mono ?_
  rintro e w2 ⟨rfl, hb2⟩
  have hB2 := hb1.trans (hb2.mono hb1.size)
  have cG2 := refGoodCs_any A2 m d b2 w2 hn2 (hr2.keep hB2 (Nat.le_refl _)) hB2.size (Nat.le_trans hm2 (by decide)) hf2
  rw [hg2] at cG2
  go_wp2_with fail
  refine cG2.mono ?_
  rintro e w3 ⟨rfl, hb3⟩
  have hB3 := hB2.trans (hb3.mono hB2.size)
  go_wp2_with fail
  refine (awake28_any _).mono ?_
  rintro e w9 ⟨rfl, hb9⟩
  go_wp2_with fail
  go_ret
  exact ⟨rfl, hB3.trans (hb9.mono hB3.size)⟩
set_option maxRecDepth 100000 in
set_option maxHeartbeats 4000000 in
theorem burlLeaves_go (A : Option Addr) (n c : Nat) (A2 : Option Addr) (m d : Nat) (a b2 : List Cl) (w : World) (hn : a.length = n) (hr : RdX 4 w.heap.size w A (a.map Cl.cells)) (hm : n ≤ 60) (hf : ∀ x, x ∈ a → x.fits) (hn2 : b2.length = m) (hr2 : RdX 4 w.heap.size w A2 (b2.map Cl.cells)) (hm2 : m ≤ 60) (hf2 : ∀ x, x ∈ b2 → x.fits) (hg : goodCls a = true) (hg2 : goodCls b2 = true) : Calls Try.prog 4 #[.slice A n c, .slice A2 m d] w fun e w' => e = .returned (.bool true) ∧ Below w.heap.size w w' := by
  have i1 : ¬ (60 : Int) < (n : Int) := by omega
  have i2 : ¬ (60 : Int) < (m : Int) := by omega
  have hLa := lvTo_len a
  have hLb := lvTo_len b2
  have xbs : (burlC a).size = 17 := by unfold burlC; rw [buC_size, hLa]
  have ybs : (burlC b2).size = 17 := by unfold burlC; rw [buC_size, hLb]
  have HN := Lib.hid hn
  have HN2 := Lib.hid hn2
  have HR := Lib.hid (fun W (h : Below w.heap.size w W) => hr.keep (W' := W) h (Nat.le_refl _))
  have HR2 := Lib.hid (fun W (h : Below w.heap.size w W) => hr2.keep (W' := W) h (Nat.le_refl _))
  have hA1 : ∀ x, x ∈ a → x.ky.size ≤ 1000 ∧ x.s.size ≤ 1000 := fun x hx => by have h := cl_in (goodCls_mem hg x hx); omega
  have hA2 : ∀ x, x ∈ b2 → x.ky.size ≤ 1000 ∧ x.s.size ≤ 1000 := fun x hx => by have h := cl_in (goodCls_mem hg2 x hx); omega
  go_enter Try.func4, Try.ntmps4
  go_wp2_with fail
  refine (awake28_any w).mono ?_
  rintro e w1 ⟨rfl, hb1⟩
  have cG := refGoodCs_any A n c a w1 hn (hr.keep hb1 (Nat.le_refl _)) hb1.size (Nat.le_trans hm (by decide)) hf
  rw [hg] at cG
  go_wp2_with fail
  refine cG.mono ?_
  rintro e w2 ⟨rfl, hb2⟩
  have hB2 := hb1.trans (hb2.mono hb1.size)
  have cG2 := refGoodCs_any A2 m d b2 w2 hn2 (hr2.keep hB2 (Nat.le_refl _)) hB2.size (Nat.le_trans hm2 (by decide)) hf2
  rw [hg2] at cG2
  go_wp2_with fail
  refine cG2.mono ?_
  rintro e w3 ⟨rfl, hb3⟩
  have hB3 := hB2.trans (hb3.mono hB2.size)
  have cO := buOf_good A n c a w3 hn ((HR.out w3 hB3).more hB3.size) (by omega) hf hg
  go_upto_region 3 with fail
  refine wp_region_lit ?_
  refine fl_start ?_
  generalize ha : Act.mk _ _ = a0
  have hn : a0.tmps.size = 108 := by rw [← ha]; kernel_rfl
  have h0 : (fr a0 []).eval (.tmp 0) = .slice A n c := by rw [← ha]; kernel_rfl
  refine fl_know hn rfl h0 ?_
  clear h0
  have h1 : (fr a0 [(0, true, .slice A n c)]).eval (.tmp 1) = .slice A2 m d := by rw [← ha]; kernel_rfl
  refine fl_know hn rfl h1 ?_
  clear h1
  refine g_mv hn ?_
  refine g_c1x en_spinney_burl_Of hn (R := fun v wz => v = .tuple #[.agg (burlC a), .int .i64 0] ∧ Below w3.heap.size w3 wz) (cO.mono fun _ _ ⟨he, hb3⟩ => ⟨_, he, rfl, hb3⟩) ?_
  rintro v w4a ⟨rfl, hbxa⟩
  refine g_mv hn ?_
  refine g_ex hn ?_
  refine g_ex hn ?_
  refine al_row hn (alBu w4a) ?_
  intro q1 w4b hqx hYxa hbxb
  refine g_str (c := burlC a) hYxa ?_ (hs := by rw [xbs]; rfl) (hi := by rw [xbs]; kernel_rfl) (h1 := bu_one _ _)
  intro w4 hox hYx
  refine g_as hn ?_
  refine fl_end ?_
  clear hn
  subst ha
  dsimp only [fr, cnd, Act.put, cond_true]
  simp only [List.setIfInBounds_toArray, List.set_cons_zero, List.set_cons_succ]
  have hB4a := hB3.trans (hbxa.mono hB3.size)
  have hB4b := hB4a.trans (hbxb.mono hB4a.size)
  have hB4 : Below w.heap.size w w4 := hB4b.trans (hox.below (by have := hB4a.size; omega))
  have hq1w : w.heap.size ≤ q1 := by have := hB4a.size; omega
  have cO2 := buOf_good A2 m d b2 w4 hn2 ((HR2.out w4 hB4).more hB4.size) (by omega) hf2 hg2
  go_upto_region 4 with fail
  refine wp_region_lit ?_
  refine fl_start ?_
  generalize ha : Act.mk _ _ = a0
  have hn : a0.tmps.size = 108 := by rw [← ha]; kernel_rfl
  have h0 : (fr a0 []).eval (.tmp 0) = .slice A n c := by rw [← ha]; kernel_rfl
  refine fl_know hn rfl h0 ?_
  clear h0
  have h1 : (fr a0 [(0, true, .slice A n c)]).eval (.tmp 1) = .slice A2 m d := by rw [← ha]; kernel_rfl
  refine fl_know hn rfl h1 ?_
  clear h1
  have h5 : (fr a0 [(1, true, .slice A2 m d), (0, true, .slice A n c)]).eval (.tmp 5) = .pointer (some ⟨q1, 0, none⟩) := by rw [← ha]; kernel_rfl
  refine fl_know hn rfl h5 ?_
  clear h5
  refine g_mv hn ?_
  refine g_c1x en_spinney_burl_Of hn (R := fun v wz => v = .tuple #[.agg (burlC b2), .int .i64 0] ∧ Below w4.heap.size w4 wz) (cO2.mono fun _ _ ⟨he, hb3⟩ => ⟨_, he, rfl, hb3⟩) ?_
  rintro v w5a ⟨rfl, hbya⟩
  refine g_mv hn ?_
  refine g_ex hn ?_
  refine g_ex hn ?_
  refine al_row hn (alBu w5a) ?_
  intro q2 w5b hqy hYya hbyb
  refine g_str (c := burlC b2) hYya ?_ (hs := by rw [ybs]; rfl) (hi := by rw [ybs]; kernel_rfl) (h1 := bu_one _ _)
  intro w5 hoy hYy
  refine g_as hn ?_
  refine fl_end ?_
  clear hn
  subst ha
  dsimp only [fr, cnd, Act.put, cond_true]
  simp only [List.setIfInBounds_toArray, List.set_cons_zero, List.set_cons_succ]
  have hB5a := hB4.trans (hbya.mono hB4.size)
  have hB5b := hB5a.trans (hbyb.mono hB5a.size)
  have hB5 : Below w.heap.size w w5 := hB5b.trans (hoy.below (by have := hB5a.size; omega))
  have hq12 : q1 < q2 := by have := hYx.lt; have := hbya.size; omega
  have hX5 := ((hYx.keep hbya).keep hbyb).only hoy (by omega)
  clear hqx hqy hYxa hYya hbxa hbxb hbya hbyb hox hoy cO cO2 cG cG2 hB4a hB4b hB5a hB5b hYx hB4 hB3 hB2 hb1 hb2 hb3 hr hr2 hn hn2
  go_wp2_with fail
  go_loopw [9, 52] (fun s9 i wr => ∃ (k : Nat), k ≤ 16 ∧ i = .int .i64 k ∧ s9 = .int .i64 ((cnt a k : Nat) : Int) ∧ Blk wr q1 (burlC a) 39 ∧ Blk wr q2 (burlC b2) 39 ∧ Below w.heap.size w wr) (fun _ i _ => 16 - (intOf i).toNat)
  case atStart => exact ⟨0, by omega, rfl, rfl, hX5, hYy, hB5⟩
  case round =>
    clear hX5 hYy hB5
    obtain ⟨k, hk, rfl, rfl, hX, hY, hB⟩ := hrel
    by_cases hlt : k < 16
    · have i3 : (k : Int) < 16 := by omega
      go_wp2_with fail
      refine (at_any A n c a (k : Int) wr HN.out ((HR.out wr hB).more hB.size) (by omega) hA1).mono ?_
      rintro e w6 ⟨A6, n6, c6, rfl, hO6, hb6⟩
      have hl6 : (atL a (k : Int)).length = n6 := by
        have h := hO6.len
        rw [List.length_map] at h
        exact h
      have hX6 := hX.keep hb6
      have hY6 := hY.keep hb6
      have hB6 : Below w.heap.size w w6 := hB.trans (hb6.mono hB.size)
      have hcn : cnt a k ≤ 960 := by
        have h1 := cnt_le a k
        have h2 : k * a.length ≤ 16 * 60 := Nat.mul_le_mul (by omega) (by have := HN.out; omega)
        omega
      have hn6 : n6 ≤ 60 := by
        have := atL_len a (k : Int)
        have := HN.out
        omega
      have HS : Hid (cnt a (k + 1) = cnt a k + n6) := by
        show cnt a k + _ = _
        rw [hl6]
      clear hX hY hB hO6 hb6
      generalize cnt a k = s0 at hcn HS ⊢
      go_wp2_with fail
      refine ⟨?_, ?_⟩
      · first
        | exact ⟨k + 1, by omega, by go_num, by rw [HS.out]; go_num, hX6, hY6, hB6⟩
        | repeat apply Exists.intro
          refine ⟨?_, rfl⟩
          exact ⟨k + 1, by omega, by go_num, by rw [HS.out]; go_num, hX6, hY6, hB6⟩
      · simp [intOf]; omega
    · have hk16 : k = 16 := by omega
      subst hk16
      have i3 : ¬ (16 : Int) < 16 := by omega
      have hcn : cnt a 16 = n := (cnt_all a).trans HN.out
      rw [hcn]
      have l1 := ld_bu hX hLa
      have l2 := ld_bu hY hLb
      go_upto_region 13 with fail
      refine wp_region_lit ?_
      refine fl_start ?_
      generalize ha : Act.mk _ _ = a0
      have hn : a0.tmps.size = 108 := by rw [← ha]; kernel_rfl
      have h5 : (fr a0 []).eval (.tmp 5) = .pointer (some ⟨q1, 0, none⟩) := by rw [← ha]; kernel_rfl
      refine fl_know hn rfl h5 ?_
      clear h5
      have h7 : (fr a0 [(5, true, .pointer (some ⟨q1, 0, none⟩))]).eval (.tmp 7) = .pointer (some ⟨q2, 0, none⟩) := by rw [← ha]; kernel_rfl
      refine fl_know hn rfl h7 ?_
      clear h7
      refine g_ld hn ?_
      refine g_ld hn ?_
      refine g_c2x en_spinney_burl_Part hn (R := fun v w7 => ∃ A7 n7 c7, v = .slice A7 n7 c7 ∧ OwnX tIn 1 wr.heap.size w7 A7 n7 c7 ((parts (rootL (lvTo a)) (rootL (lvTo b2)) (lvTo a) (lvTo b2)).map inC) ∧ Below wr.heap.size wr w7) ((buPart_any _ _ _ _ wr hLa hLb).mono fun _ _ ⟨A, n, c, he, hO, hb⟩ => ⟨_, he, A, n, c, rfl, hO, hb⟩) ?_
      rintro v w7 ⟨A7, n7, c7, rfl, hO7, hb7⟩
      refine g_ln hn ?_
      refine g_mc hn ?_
      refine fl_end ?_
      clear hn l1 l2
      subst ha
      dsimp only [fr, cnd, Act.put, cond_true]
      simp only [List.setIfInBounds_toArray, List.set_cons_zero, List.set_cons_succ]
      have hP := hO7.rdi
      have hX7 := hX.keep hb7
      have hY7 := hY.keep hb7
      have hB7 : Below w.heap.size w w7 := hB.trans (hb7.mono hB.size)
      have hp7 : (parts (rootL (lvTo a)) (rootL (lvTo b2)) (lvTo a) (lvTo b2)).length = n7 := by
        have h := hO7.len
        rw [List.length_map] at h
        exact h
      have hp16 : n7 ≤ 16 := by
        rw [← hp7]
        exact parts_len _ _ _ _
      have HM := Lib.hid (fun x (h : x ∈ parts (rootL (lvTo a)) (rootL (lvTo b2)) (lvTo a) (lvTo b2)) => parts_un h)
      generalize parts (rootL (lvTo a)) (rootL (lvTo b2)) (lvTo a) (lvTo b2) = ps at hP hp7 HM
      clear hX hY hB hb7 hO7
      go_wp2_with fail
      go_loopw [66] (fun i wr => ∃ (k : Nat), k ≤ n7 ∧ i = .int .i64 k ∧ Blk wr q1 (burlC a) 39 ∧ Blk wr q2 (burlC b2) 39 ∧ Below w7.heap.size w7 wr ∧ Below w.heap.size w wr) (fun i _ => n7 - (intOf i).toNat)
      case atStart => exact ⟨0, Nat.zero_le _, rfl, hX7, hY7, Below.refl _ _, hB7⟩
      case round =>
        clear hX7 hY7 hB7
        obtain ⟨k, hk, rfl, hX, hY, hW, hB⟩ := hrel
        by_cases hlt : k < n7
        · obtain ⟨x, hx⟩ : ∃ x, ps[k]? = some x := ⟨_, List.getElem?_eq_getElem (by omega)⟩
          obtain ⟨ad, rfl, hbk, hc⟩ := hP k x hx
          have c0 : wr.cell? (ad.add k) = some (.int .i64 x) := (hW.cell (by rw [add_block]; exact hbk)).trans hc
          obtain ⟨kk, hkk, rfl, hne⟩ := HM.out x (List.mem_of_getElem? hx)
          have i4 : (0 : Int) ≤ (k : Int) := by omega
          have i5 : (k : Int) < (n7 : Int) := by omega
          have i6 : ¬ (kk : Int) < 0 := by omega
          have i7 : ¬ (15 : Int) < (kk : Int) := by omega
          clear hc
          go_wp2_with fail
          refine (at_any A n c a (kk : Int) wr HN.out ((HR.out wr hB).more hB.size) (by omega) hA1).mono ?_
          rintro e w8 ⟨A8, n8, c8, rfl, hO8, hb8⟩
          have hB8 : Below w.heap.size w w8 := hB.trans (hb8.mono hB.size)
          go_wp2_with fail
          refine (at_any A2 m d b2 (kk : Int) w8 HN2.out ((HR2.out w8 hB8).more hB8.size) (by omega) hA2).mono ?_
          rintro e w9 ⟨A9, n9, c9, rfl, hO9, hb9⟩
          have hB9 : Below w.heap.size w w9 := hB8.trans (hb9.mono hB8.size)
          have hl8 : (atL a (kk : Int)).length = n8 := by
            have h := hO8.len
            rw [List.length_map] at h
            exact h
          have hl9 : (atL b2 (kk : Int)).length = n9 := by
            have h := hO9.len
            rw [List.length_map] at h
            exact h
          have hn8 : n8 ≤ 1000000 := by
            have := atL_len a (kk : Int)
            have := HN.out
            omega
          go_wp2_with fail
          refine (refSameC_any A8 A9 n8 c8 n9 c9 (atL a (kk : Int)) (atL b2 (kk : Int)) w9 hl8 (hO8.rd.keep hb9 (Nat.le_refl _)) hn8 hl9 hO9.rd).mono ?_
          rintro e w10 ⟨he, hd⟩
          rw [sameG_no hne] at he
          subst he
          have hX10 := ((hX.keep hb8).keep hb9).keep (hd.below _)
          have hY10 := ((hY.keep hb8).keep hb9).keep (hd.below _)
          have hB10 : Below w.heap.size w w10 := hB9.trans (hd.below _)
          have hW10 := (hW.trans (hb8.mono hW.size)).trans ((hb9.mono (by have := hb8.size; have := hW.size; omega)).trans (hd.below _))
          clear hX hY hW hB hO8 hO9 hb8 hb9 hB8 hB9 hd c0
          go_wp2_with fail
          refine ⟨?_, ?_⟩
          · first
            | exact ⟨k + 1, by omega, by go_num, hX10, hY10, hW10, hB10⟩
            | repeat apply Exists.intro
              refine ⟨?_, rfl⟩
              exact ⟨k + 1, by omega, by go_num, hX10, hY10, hW10, hB10⟩
          · simp [intOf]; omega
        · have i5 : ¬ (k : Int) < (n7 : Int) := by omega
          have cS := refSameC_any (B := w.heap.size) (C := w.heap.size) A A2 n c m d a b2 wr HN.out (HR.out wr hB) (by omega) HN2.out (HR2.out wr hB)
          by_cases hab : a = b2
          · rw [sameG_yes hab] at cS
            have hY2 : Blk wr q2 (burlC a) 39 := by rw [hab]; exact hY
            go_upto_region 19 with fail
            refine wp_region_lit ?_
            refine fl_start ?_
            generalize ha : Act.mk _ _ = a0
            have hn : a0.tmps.size = 108 := by rw [← ha]; kernel_rfl
            have h0 : (fr a0 []).eval (.tmp 0) = .slice A n c := by rw [← ha]; kernel_rfl
            refine fl_know hn rfl h0 ?_
            clear h0
            have h1 : (fr a0 [(0, true, .slice A n c)]).eval (.tmp 1) = .slice A2 m d := by rw [← ha]; kernel_rfl
            refine fl_know hn rfl h1 ?_
            clear h1
            have h5 : (fr a0 [(1, true, .slice A2 m d), (0, true, .slice A n c)]).eval (.tmp 5) = .pointer (some ⟨q1, 0, none⟩) := by rw [← ha]; kernel_rfl
            refine fl_know hn rfl h5 ?_
            clear h5
            have h7 : (fr a0 [(5, true, .pointer (some ⟨q1, 0, none⟩)), (1, true, .slice A2 m d), (0, true, .slice A n c)]).eval (.tmp 7) = .pointer (some ⟨q2, 0, none⟩) := by rw [← ha]; kernel_rfl
            refine fl_know hn rfl h7 ?_
            clear h7
            have h9 : (fr a0 [(7, true, .pointer (some ⟨q2, 0, none⟩)), (5, true, .pointer (some ⟨q1, 0, none⟩)), (1, true, .slice A2 m d), (0, true, .slice A n c)]).eval (.tmp 9) = .int .i64 (n : Int) := by rw [← ha]; kernel_rfl
            refine fl_know hn rfl h9 ?_
            clear h9
            refine g_mv hn ?_
            refine g_mv hn ?_
            refine g_ln hn ?_
            refine g_bn hn ?_ (v := .bool true) (hr := in_eq28 _ _ _ _)
            refine g_mv hn ?_
            refine g_mv hn ?_
            refine g_mv hn ?_
            refine g_c2x en_spinney_spinneyref07_SameCells hn (R := fun v w8 => v = .bool true ∧ Drn wr w8) (cS.mono fun _ _ ⟨he, hd⟩ => ⟨_, he, rfl, hd⟩) ?_
            rintro v w8 ⟨rfl, hd⟩
            have hX8 := hX.keep (hd.below _)
            have hY8 := hY2.keep (hd.below _)
            have hB8 : Below w.heap.size w w8 := hB.trans (hd.below _)
            have l1 := ld_bu hX8 hLa
            have l2 := ld_bu hY8 hLa
            refine g_nt hn ?_
            refine g_mv hn ?_
            refine g_ld hn ?_
            refine g_ld hn ?_
            refine g_bn hn ?_ (v := .bool true) (hr := burl_eqlC _ (.inl rfl) _ _ _ _ hLa _)
            refine g_mv hn ?_
            refine g_ld hn ?_
            refine g_ld hn ?_
            refine g_c2x en_spinney_burl_Part hn (R := fun v w9 => ∃ A9 c9, v = .slice A9 0 c9 ∧ Below w8.heap.size w8 w9) ((buPart_any (rootL (lvTo a)) (rootL (lvTo a)) (lvTo a) (lvTo a) w8 hLa hLa).mono fun e w' hI => by
              obtain ⟨A, n, c, he, hO, hb⟩ := hI
              have h := hO.len
              rw [parts_self] at h
              have h2 : n = 0 := h.symm
              subst h2
              exact ⟨_, he, A, c, rfl, hb⟩) ?_
            rintro v w9 ⟨A9, c9, rfl, hb9⟩
            refine g_ln hn ?_
            refine g_eql hn ?_
            refine g_an hn ?_
            refine g_or hn ?_
            refine g_an hn ?_
            refine g_as hn ?_
            refine fl_end ?_
            clear hn l1 l2
            subst ha
            dsimp only [fr, cnd, Act.put, cond_true]
            simp only [List.setIfInBounds_toArray, List.set_cons_zero, List.set_cons_succ]
            go_wp2_with fail
            go_ret
            exact ⟨rfl, hB8.trans (hb9.mono hB8.size)⟩
          · rw [sameG_no hab] at cS
            go_wp2_with fail
            refine cS.mono ?_
            rintro e w8 ⟨rfl, hd⟩
            go_wp2_with fail
            go_ret
            exact ⟨rfl, hB.trans (hd.below _)⟩
theorem burlLeaves_all (A : Option Addr) (n c : Nat) (a : List Cl) (A2 : Option Addr) (m d : Nat) (b2 : List Cl) (w : World) (hn : a.length = n) (hr : RdX 4 w.heap.size w A (a.map Cl.cells)) (_ : n ≤ maxLen) (hf : ∀ x, x ∈ a → x.fits) (hn2 : b2.length = m) (hr2 : RdX 4 w.heap.size w A2 (b2.map Cl.cells)) (_ : m ≤ maxLen) (hf2 : ∀ x, x ∈ b2 → x.fits) :
    Calls Try.prog 4 #[.slice A n c, .slice A2 m d] w fun e w' => e = .returned (.bool true) ∧ Below w.heap.size w w' := by
  by_cases hs : 60 < n
  · exact burlLeaves_m1 A n c A2 m d w hs
  by_cases hs2 : 60 < m
  · exact burlLeaves_m2 A n c A2 m d w (by omega) hs2
  cases hg : goodCls a with
  | false => exact burlLeaves_b1 A n c A2 m d a w hn hr (by omega) hf (by omega) hg
  | true =>
    cases hg2 : goodCls b2 with
    | false => exact burlLeaves_b2 A n c A2 m d a b2 w hn hr (by omega) hf hn2 hr2 (by omega) hf2 hg hg2
    | true => exact burlLeaves_go A n c A2 m d a b2 w hn hr (by omega) hf hn2 hr2 (by omega) hf2 hg hg2
end Go.Proofs.Ytokkmofcijfmiab
