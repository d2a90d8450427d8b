/-
  WHAT IS PROVED: the statement ReachTexts' law answers true for every slice of strings and every text, if package reach's calls answer as ReachC says. Conditions: those typed in the theorem.
-/
import Derived.Test.YtokkmofcijfmiaaDoorReachAwake
import Derived.Test.YtokkmofcijfmiaaDoorGQ7
import Derived.Test.YtokkmofcijfmiaaDoorGQ9
namespace Go.Proofs.YtokkmofcijfmiaaDoor
open Go.RowKit

theorem sum_le : ∀ (l : List ByteArray), Sz 20 l → ((dL l).map List.length).sum ≤ 20 * l.length
  | [], _ => by simp
  | x :: t, h => by
    have h1 := h x List.mem_cons_self
    have ih := sum_le t fun y hy => h y (List.mem_cons_of_mem _ hy)
    have hl : x.data.toList.length = x.size := Array.length_toList
    simp only [dL, List.map_cons, List.sum_cons, List.length_cons] at ih ⊢
    omega
theorem textR_size {l : List ByteArray} {s : ByteArray} (h : goodR (dL l) = true) (hs : s.data.toList = textR (dL l)) : s.size ≤ 500 := by
  have hl : s.data.toList.length = s.size := Array.length_toList
  rw [← hl, hs]
  have h6 := goodR_six h
  have hz := sum_le l (goodR_sizes h)
  have hj := joinC_le (dL l)
  rw [dL_len] at hj
  unfold textR
  split
  · simp
  · split
    · simp
    · omega
theorem read_ok (h : ReadC) (s : ByteArray) (w : World) (R : List (List UInt8)) (hL : LaidR w) (hs : s.size ≤ 500) (hR : readR s.data.toList = some R) :
    Calls Tryd.prog 11 #[.string s] w fun e w' => Ans R 0 e w' ∧ Below w.heap.size w w' :=
  (h s w hL hs).mono fun _ _ hh => by
    rw [hR] at hh
    exact hh
theorem read_no (h : ReadC) (s : ByteArray) (w : World) (hL : LaidR w) (hs : s.size ≤ 500) (hR : readR s.data.toList = none) :
    Calls Tryd.prog 11 #[.string s] w fun e w' => e = .returned (.tuple #[.slice none 0 0, .int .i64 2]) ∧ Below w.heap.size w w' :=
  (h s w hL hs).mono fun _ _ hh => by
    rw [hR] at hh
    exact hh
theorem refRead_ok (s : ByteArray) (w : World) (R : List (List UInt8)) (hs : s.size ≤ 1000) (hR : readR s.data.toList = some R) :
    Calls Tryd.prog 12 #[.string s] w fun e w' => (∃ (A' : Option Addr) (n' c' : Nat) (l : List ByteArray), e = .returned (.tuple #[.slice A' n' c', .bool true]) ∧ OwnS w.heap.size w' A' n' c' l ∧ dL l = R) ∧ Below w.heap.size w w' :=
  (refReachRead_any s w hs).mono fun _ _ hh => by
    unfold ReadRP at hh
    rw [hR] at hh
    exact hh
theorem refRead_no (s : ByteArray) (w : World) (hs : s.size ≤ 1000) (hR : readR s.data.toList = none) :
    Calls Tryd.prog 12 #[.string s] w fun e w' => e = .returned (.tuple #[.slice none 0 0, .bool false]) ∧ Below w.heap.size w w' :=
  (refReachRead_any s w hs).mono fun _ _ hh => by
    unfold ReadRP at hh
    rw [hR] at hh
    exact hh

set_option maxRecDepth 100000 in
set_option maxHeartbeats 4000000 in
theorem lawReachTexts_any (hC : ReachC) (hR0 : ReadC) (A : Option Addr) (n c : Nat) (a : List ByteArray) (s : ByteArray) (w : World) (hL : LaidR w) (ha : a.length = n) (hr : RdS w.heap.size w A a) (hm : n ≤ maxLen) (hs : Sz maxLen a) (_hsz : s.size ≤ maxLen) :
    Calls Tryd.prog 3 #[.slice A n c, .string s] w fun e w' => e = .returned (.bool true) ∧ Below w.heap.size w w' := by
  have HA := Lib.hid ha
  have HS := Lib.hid hs
  have hle := Nat.le_refl w.heap.size
  clear ha hs
  by_cases h5 : s.size ≤ 500
  · have s1 : (s.size : Int) ≤ 500 := by omega
    cases hR : readR s.data.toList with
    | some R =>
      have HR := Lib.hid hR
      clear hR
      by_cases hg : goodR (dL a) = true
      · have HG := Lib.hid hg
        clear hg
        go_enter Tryd.func3, Tryd.ntmps3
        go_wp2_with fail
        refine (reachAwake hC w hL).mono ?_
        rintro e w1 ⟨rfl, B1⟩
        go_wp2_with fail
        refine (read_ok hR0 s _ R (hL.keep B1) h5 HR.out).mono ?_
        rintro e w2 ⟨⟨A2, c2, r2, rfl, hr2, hd2⟩, hb2⟩
        have HD2 := Lib.hid hd2
        have B2 := bt B1 hb2
        clear hd2
        have HT := Lib.hid (text_read HR.out).1
        have hgr2 : goodR (dL r2) = true := by rw [HD2.out]; exact (text_read HR.out).2
        have HGR2 := Lib.hid hgr2
        clear hgr2
        generalize hlen : R.length = nR
        have HLR := Lib.hid hlen
        clear hlen
        have hnR : nR ≤ 1000 := by rw [← HLR.out, ← HD2.out, dL_len]; exact Nat.le_trans (goodR_six HGR2.out) (by omega)
        go_wp2_with fail
        refine (refRead_ok s _ R (by omega) HR.out).mono ?_
        rintro e w3 ⟨⟨A3, n3, c3, r3, rfl, hO3, hd3⟩, hb3⟩
        have HD3 := Lib.hid hd3
        have B3 := bt B2 hb3
        clear hd3
        go_wp2_with fail
        refine (refSame_is A2 A3 nR c2 n3 c3 r2 r3 _ true ((sameB_of HD2.out HD3.out).trans (decide_eq_true rfl)) (len_of HD2.out HLR.out) (hr2.keep hb3 (Nat.le_refl _)) (small_max hnR) hO3.len hO3.rd).mono ?_
        rintro e w4 ⟨rfl, hD4⟩
        have B4 := bt B3 (hD4.below _)
        go_wp2_with fail
        refine (hC.text A2 nR c2 r2 _ (hL.keep B4) (len_of HD2.out HLR.out) ((hr2.keep (bt hb3 (hD4.below _)) (Nat.le_refl _)).more (by have := hD4.size; have := hb3.size; omega)) HGR2.out).mono ?_
        rintro e w5 ⟨⟨s5, rfl, hs5⟩, hb5⟩
        have B5 := bt B4 hb5
        have e5 : (s5.toList == s.toList) = true := by rw [str_eqB, hs5, HD2.out, HT.out]; simp
        clear hs5
        go_wp2_with fail
        refine (refRGood_is A n c a _ true HG.out HA.out (hr.keep B5 hle) hm HS.out).mono ?_
        rintro e w6 ⟨rfl, hD6⟩
        have B6 := bt B5 (hD6.below _)
        go_wp2_with fail
        refine (hC.text A n c a _ (hL.keep B6) HA.out (up hr hle B6) HG.out).mono ?_
        rintro e w7 ⟨⟨s7, rfl, hs7⟩, hb7⟩
        have B7 := bt B6 hb7
        have HR7 : Hid (readR s7.data.toList = some (dL a)) := by
          show _ = _
          rw [hs7]
          exact read_text HG.out
        have z7 := textR_size HG.out hs7
        clear hs7
        go_wp2_with fail
        refine (read_ok hR0 s7 _ (dL a) (hL.keep B7) z7 HR7.out).mono ?_
        rintro e w8 ⟨⟨A8, c8, r8, rfl, hr8, hd8⟩, hb8⟩
        have HD8 := Lib.hid hd8
        have B8 := bt B7 hb8
        clear hd8
        generalize hlen8 : (dL a).length = n8
        have HL8 := Lib.hid hlen8
        clear hlen8
        have hn8 : n8 ≤ 1000 := by rw [← HL8.out, dL_len]; exact Nat.le_trans (goodR_six HG.out) (by omega)
        go_wp2_with fail
        refine (hC.text A n c a _ (hL.keep B8) HA.out (up hr hle B8) HG.out).mono ?_
        rintro e w9 ⟨⟨s9, rfl, hs9⟩, hb9⟩
        have B9 := bt B8 hb9
        have HS9 := Lib.hid hs9
        clear hs9
        go_wp2_with fail
        refine (refReachText_any A n c a _ HA.out (hr.keep B9 hle) (by rw [← HA.out]; exact goodR_six HG.out) (goodR_sizes HG.out)).mono ?_
        rintro e w9' ⟨⟨s10, rfl, hs10⟩, rfl⟩
        have e10 : (s9.toList == s10.toList) = true := by rw [str_eqB, HS9.out, hs10]; simp
        clear hs10
        go_wp2_with fail
        refine (refSame_is A8 A n8 c8 n c r8 a _ true ((sameB_of HD8.out rfl).trans (decide_eq_true rfl)) (len_of HD8.out HL8.out) (hr8.keep hb9 (Nat.le_refl _)) (small_max hn8) HA.out (hr.keep B9 hle)).mono ?_
        rintro e w11 ⟨rfl, hD11⟩
        go_wp2_with fail
        go_ret
        exact ⟨rfl, bt B9 (hD11.below _)⟩
      · have HG := Lib.hid (Bool.eq_false_iff.2 hg)
        clear hg
        go_enter Tryd.func3, Tryd.ntmps3
        go_wp2_with fail
        refine (reachAwake hC w hL).mono ?_
        rintro e w1 ⟨rfl, B1⟩
        go_wp2_with fail
        refine (read_ok hR0 s _ R (hL.keep B1) h5 HR.out).mono ?_
        rintro e w2 ⟨⟨A2, c2, r2, rfl, hr2, hd2⟩, hb2⟩
        have HD2 := Lib.hid hd2
        have B2 := bt B1 hb2
        clear hd2
        have HT := Lib.hid (text_read HR.out).1
        have hgr2 : goodR (dL r2) = true := by rw [HD2.out]; exact (text_read HR.out).2
        have HGR2 := Lib.hid hgr2
        clear hgr2
        generalize hlen : R.length = nR
        have HLR := Lib.hid hlen
        clear hlen
        have hnR : nR ≤ 1000 := by rw [← HLR.out, ← HD2.out, dL_len]; exact Nat.le_trans (goodR_six HGR2.out) (by omega)
        go_wp2_with fail
        refine (refRead_ok s _ R (by omega) HR.out).mono ?_
        rintro e w3 ⟨⟨A3, n3, c3, r3, rfl, hO3, hd3⟩, hb3⟩
        have HD3 := Lib.hid hd3
        have B3 := bt B2 hb3
        clear hd3
        go_wp2_with fail
        refine (refSame_is A2 A3 nR c2 n3 c3 r2 r3 _ true ((sameB_of HD2.out HD3.out).trans (decide_eq_true rfl)) (len_of HD2.out HLR.out) (hr2.keep hb3 (Nat.le_refl _)) (small_max hnR) hO3.len hO3.rd).mono ?_
        rintro e w4 ⟨rfl, hD4⟩
        have B4 := bt B3 (hD4.below _)
        go_wp2_with fail
        refine (hC.text A2 nR c2 r2 _ (hL.keep B4) (len_of HD2.out HLR.out) ((hr2.keep (bt hb3 (hD4.below _)) (Nat.le_refl _)).more (by have := hD4.size; have := hb3.size; omega)) HGR2.out).mono ?_
        rintro e w5 ⟨⟨s5, rfl, hs5⟩, hb5⟩
        have B5 := bt B4 hb5
        have e5 : (s5.toList == s.toList) = true := by rw [str_eqB, hs5, HD2.out, HT.out]; simp
        clear hs5
        go_wp2_with fail
        refine (refRGood_is A n c a _ false HG.out HA.out (hr.keep B5 hle) hm HS.out).mono ?_
        rintro e w6 ⟨rfl, hD6⟩
        go_wp2_with fail
        go_ret
        exact ⟨rfl, bt B5 (hD6.below _)⟩
    | none =>
      have HR := Lib.hid hR
      clear hR
      by_cases hg : goodR (dL a) = true
      · have HG := Lib.hid hg
        clear hg
        go_enter Tryd.func3, Tryd.ntmps3
        go_wp2_with fail
        refine (reachAwake hC w hL).mono ?_
        rintro e w1 ⟨rfl, B1⟩
        go_wp2_with fail
        refine (read_no hR0 s _ (hL.keep B1) h5 HR.out).mono ?_
        rintro e w2 ⟨rfl, hb2⟩
        have B2 := bt B1 hb2
        go_wp2_with fail
        refine (refRead_no s _ (by omega) HR.out).mono ?_
        rintro e w3 ⟨rfl, hb3⟩
        have B5 := bt B2 hb3
        go_wp2_with fail
        refine (refRGood_is A n c a _ true HG.out HA.out (hr.keep B5 hle) hm HS.out).mono ?_
        rintro e w6 ⟨rfl, hD6⟩
        have B6 := bt B5 (hD6.below _)
        go_wp2_with fail
        refine (hC.text A n c a _ (hL.keep B6) HA.out (up hr hle B6) HG.out).mono ?_
        rintro e w7 ⟨⟨s7, rfl, hs7⟩, hb7⟩
        have B7 := bt B6 hb7
        have HR7 : Hid (readR s7.data.toList = some (dL a)) := by
          show _ = _
          rw [hs7]
          exact read_text HG.out
        have z7 := textR_size HG.out hs7
        clear hs7
        go_wp2_with fail
        refine (read_ok hR0 s7 _ (dL a) (hL.keep B7) z7 HR7.out).mono ?_
        rintro e w8 ⟨⟨A8, c8, r8, rfl, hr8, hd8⟩, hb8⟩
        have HD8 := Lib.hid hd8
        have B8 := bt B7 hb8
        clear hd8
        generalize hlen8 : (dL a).length = n8
        have HL8 := Lib.hid hlen8
        clear hlen8
        have hn8 : n8 ≤ 1000 := by rw [← HL8.out, dL_len]; exact Nat.le_trans (goodR_six HG.out) (by omega)
        go_wp2_with fail
        refine (hC.text A n c a _ (hL.keep B8) HA.out (up hr hle B8) HG.out).mono ?_
        rintro e w9 ⟨⟨s9, rfl, hs9⟩, hb9⟩
        have B9 := bt B8 hb9
        have HS9 := Lib.hid hs9
        clear hs9
        go_wp2_with fail
        refine (refReachText_any A n c a _ HA.out (hr.keep B9 hle) (by rw [← HA.out]; exact goodR_six HG.out) (goodR_sizes HG.out)).mono ?_
        rintro e w9' ⟨⟨s10, rfl, hs10⟩, rfl⟩
        have e10 : (s9.toList == s10.toList) = true := by rw [str_eqB, HS9.out, hs10]; simp
        clear hs10
        go_wp2_with fail
        refine (refSame_is A8 A n8 c8 n c r8 a _ true ((sameB_of HD8.out rfl).trans (decide_eq_true rfl)) (len_of HD8.out HL8.out) (hr8.keep hb9 (Nat.le_refl _)) (small_max hn8) HA.out (hr.keep B9 hle)).mono ?_
        rintro e w11 ⟨rfl, hD11⟩
        go_wp2_with fail
        go_ret
        exact ⟨rfl, bt B9 (hD11.below _)⟩
      · have HG := Lib.hid (Bool.eq_false_iff.2 hg)
        clear hg
        go_enter Tryd.func3, Tryd.ntmps3
        go_wp2_with fail
        refine (reachAwake hC w hL).mono ?_
        rintro e w1 ⟨rfl, B1⟩
        go_wp2_with fail
        refine (read_no hR0 s _ (hL.keep B1) h5 HR.out).mono ?_
        rintro e w2 ⟨rfl, hb2⟩
        have B2 := bt B1 hb2
        go_wp2_with fail
        refine (refRead_no s _ (by omega) HR.out).mono ?_
        rintro e w3 ⟨rfl, hb3⟩
        have B5 := bt B2 hb3
        go_wp2_with fail
        refine (refRGood_is A n c a _ false HG.out HA.out (hr.keep B5 hle) hm HS.out).mono ?_
        rintro e w6 ⟨rfl, hD6⟩
        go_wp2_with fail
        go_ret
        exact ⟨rfl, bt B5 (hD6.below _)⟩
  · have s1 : (500 : Int) < (s.size : Int) := by omega
    go_enter Tryd.func3, Tryd.ntmps3
    go_wp2_with fail
    refine (reachAwake hC w hL).mono ?_
    rintro e w1 ⟨rfl, B1⟩
    go_wp2_with fail
    refine (reachAwake hC _ (hL.keep B1)).mono ?_
    rintro e w2 ⟨rfl, hb2⟩
    go_wp2_with fail
    go_ret
    exact ⟨rfl, bt B1 hb2⟩
end Go.Proofs.YtokkmofcijfmiaaDoor
