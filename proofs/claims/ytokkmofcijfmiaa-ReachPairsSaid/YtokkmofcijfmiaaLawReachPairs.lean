/-
  WHAT IS PROVED: the statement ReachPairs' law answers true for every two slices of strings, if package reach's calls answer as ReachC says. Conditions: those typed in the theorem.
-/
import Derived.Test.YtokkmofcijfmiaaReachAwake
import Derived.Test.YtokkmofcijfmiaaGQ7
import Derived.Test.YtokkmofcijfmiaaReachRef
import Derived.Test.YtokkmofcijfmiaaReachMade
import Derived.Test.YtokkmofcijfmiaaReachBoth
namespace Go.Proofs.Ytokkmofcijfmiaa
open Go.RowKit

theorem join_ok (h : JoinC) (A A2 : Option Addr) (n c m d : Nat) (a b : List ByteArray) (w : World) (R : List (List UInt8)) (hL : LaidR w) (ha : a.length = n) (hr : RdS w.heap.size w A a) (hb : b.length = m) (hr2 : RdS w.heap.size w A2 b) (g1 : goodR (dL a) = true) (g2 : goodR (dL b) = true) (hR : IsMade (· ∈ dL a ++ dL b) R) (h6 : R.length ≤ 6) :
    Calls Try.prog 14 #[.slice A n c, .slice A2 m d] w fun e w' => Ans R 0 e w' ∧ Below w.heap.size w w' :=
  (h A A2 n c m d a b w R hL ha hr hb hr2 g1 g2 hR).mono fun _ _ hh => by
    rw [if_pos h6] at hh
    exact hh
theorem join_full (h : JoinC) (A A2 : Option Addr) (n c m d : Nat) (a b : List ByteArray) (w : World) (R : List (List UInt8)) (hL : LaidR w) (ha : a.length = n) (hr : RdS w.heap.size w A a) (hb : b.length = m) (hr2 : RdS w.heap.size w A2 b) (g1 : goodR (dL a) = true) (g2 : goodR (dL b) = true) (hR : IsMade (· ∈ dL a ++ dL b) R) (h6 : ¬ R.length ≤ 6) :
    Calls Try.prog 14 #[.slice A n c, .slice A2 m d] w fun e w' => e = .returned (.tuple #[.slice none 0 0, .int .i64 3]) ∧ Below w.heap.size w w' :=
  (h A A2 n c m d a b w R hL ha hr hb hr2 g1 g2 hR).mono fun _ _ hh => by
    rw [if_neg h6] at hh
    exact hh
set_option maxRecDepth 100000 in
set_option maxHeartbeats 4000000 in
theorem lawReachPairs_any (hC : ReachC) (hJ : JoinC) (A A2 : Option Addr) (n c m d : Nat) (a b : List ByteArray) (w : World) (hL : LaidR w) (ha : a.length = n) (hr : RdS w.heap.size w A a) (hm : n ≤ maxLen) (hs : Sz maxLen a)
    (hb : b.length = m) (hr2 : RdS w.heap.size w A2 b) (hm2 : m ≤ maxLen) (hs2 : Sz maxLen b) :
    Calls Try.prog 4 #[.slice A n c, .slice A2 m d] w fun e w' => e = .returned (.bool true) ∧ Below w.heap.size w w' := by
  obtain ⟨i0, hi0, hz0, hz1, hz2⟩ := info_parts str_info
  have HA := Lib.hid ha
  have HB := Lib.hid hb
  have HS := Lib.hid hs
  have HS2 := Lib.hid hs2
  have hle := Nat.le_refl w.heap.size
  clear ha hb hs hs2
  by_cases hg : goodR (dL a) = true
  · have HG := Lib.hid hg
    clear hg
    by_cases hg2 : goodR (dL b) = true
    · have HG2 := Lib.hid hg2
      clear hg2
      have n6 : n ≤ 6 := by rw [← HA.out]; exact goodR_six HG.out
      have m6 : m ≤ 6 := by rw [← HB.out]; exact goodR_six HG2.out
      obtain ⟨R, hR⟩ := made_ex (dL a ++ dL b)
      obtain ⟨R2, hR2⟩ := both_ex (dL a) (dL b)
      have HR := Lib.hid hR
      have HR2 := Lib.hid hR2
      have HR3 : Hid (IsMade (BothS (dL b) (dL a)) R2) := made_congr hR2 (bothS_swap _ _)
      clear hR hR2
      by_cases H6 : R.length ≤ 6
      · go_enter Try.func4, Try.ntmps4
        go_wp2_with fail
        refine (reachAwake hC w hL).mono ?_
        rintro e w1 ⟨rfl, B1⟩
        go_wp2_with fail
        refine (refRGood_is A n c a _ true HG.out HA.out (hr.keep B1 hle) hm HS.out).mono ?_
        rintro e w2 ⟨rfl, hD2⟩
        have B2 := bt B1 (hD2.below _)
        clear B1 hD2
        go_wp2_with fail
        refine (refRGood_is A2 m d b _ true HG2.out HB.out (hr2.keep B2 hle) hm2 HS2.out).mono ?_
        rintro e w3 ⟨rfl, hD3⟩
        have B3 := bt B2 (hD3.below _)
        clear B2 hD3
        go_wp2_with fail
        refine (join_ok hJ A A2 n c m d a b _ R (hL.keep B3) HA.out (up hr hle B3) HB.out (up hr2 hle B3) HG.out HG2.out HR.out H6).mono ?_
        rintro e w4 ⟨⟨A1, c1, r1, rfl, hra, hda⟩, hb4⟩
        have HDA := Lib.hid hda
        clear hda
        generalize hlen : R.length = nR at H6 ⊢
        have HLR := Lib.hid hlen
        clear hlen
        have B4 := bt B3 hb4
        have hle4 := B4.size
        have ho0 := OwnS.lit w4 (base := w4.heap.size) (n := 0) #[] [] rfl rfl (Nat.le_refl _) (Nat.zero_le _)
        have r4a := (hr.keep B4 hle).keep (b0 w4 (.cells #[] 9)) hle4
        go_wp2_with (first
          | (at_builtin; refine wpList_apS (base := w4.heap.size) (n := 0) (m := n) (l := []) (l2 := a) (by rfl) _ _ (by rfl) Try.underlying22 Try.underlying25 hi0 hz0 hz1 hz2 (by rfl) (by rfl) ho0 r4a HA.out n (by omega) (by omega) (by simp) ?_; intro A5 c5 w5 hO5 hb5 hg5; have B5 := (B4.alloc B4.size (.cells #[] 9)).trans (hb5.mono B4.size); have hb45 := below_alloc_trans hb5; have r5b := hr2.keep B5 hle)
          | (at_builtin; refine wpList_apS (base := w4.heap.size) (n := n) (m := m) (l := [] ++ a) (l2 := b) (by rfl) _ _ (by rfl) Try.underlying22 Try.underlying25 hi0 hz0 hz1 hz2 (by rfl) (by rfl) hO5 r5b HB.out (n + m) (by omega) (by omega) hb45.size ?_; intro A6 c6 w6 hO6 hb6 hg6; have B6 := B5.trans (hb6.mono B4.size); have hb46 := hb45.trans hb6))
        have hsz6 : ∀ x, x ∈ [] ++ a ++ b → x.size ≤ maxLen := fun x hx => by
          rw [List.nil_append, List.mem_append] at hx
          exact hx.elim (HS.out x) (HS2.out x)
        have HZ6 := Lib.hid hsz6
        clear hsz6 r4a r5b ho0 hO5
        refine (refMade_any A6 (n + m) c6 _ _ hO6.len hO6.rd (Nat.le_refl _) (by omega) HZ6.out).mono ?_
        rintro e w7 ⟨⟨A7, n7, c7, r7, rfl, hO7, hM7, hI7⟩, hb7⟩
        have HR7 : Hid (dL r7 = R) := made_uniq (madeTo_is hM7 (dL_len _).symm) HR.out (fun x => by rw [List.nil_append, dL_app])
        have hn7 : n7 = R.length := by rw [← HR7.out, dL_len, hO7.len]
        have B7 := bt B6 hb7
        have hb47 : Below w4.heap.size w4 w7 := hb46.trans (hb7.mono hb46.size)
        clear hM7 hI7 hO6
        have h7a : (n7 : Int) ≤ 6 := by have := HLR.out; omega
        have HN7 := Lib.hid hn7
        clear hn7
        go_wp2_with fail
        refine (refSame_is A1 A7 nR c1 n7 c7 r1 r7 _ true ((sameB_of HDA.out HR7.out).trans (decide_eq_true rfl)) (len_of HDA.out HLR.out) (hra.keep hb47 (Nat.le_refl _)) (small_max (by omega)) hO7.len hO7.rd).mono ?_
        rintro e w8 ⟨rfl, hD8⟩
        have B8 := bt B7 (hD8.below _)
        go_wp2_with fail
        refine (hC.covers A A2 n c m d a b _ (hL.keep B8) HA.out (up hr hle B8) HB.out (up hr2 hle B8) HG.out HG2.out).mono ?_
        rintro e w9 ⟨rfl, hb9⟩
        have B9 := bt B8 hb9
        go_wp2_with fail
        refine (refCovers_any A A2 n c m d a b _ HA.out (hr.keep B9 hle) hm HB.out (hr2.keep B9 hle) hm2).mono ?_
        rintro e w9' ⟨rfl, rfl⟩
        generalize covB (dL a) (dL b) = gb
        go_wp2_with fail
        refine (hC.both A A2 n c m d a b _ R2 (hL.keep B9) HA.out (up hr hle B9) HB.out (up hr2 hle B9) HG.out HG2.out HR2.out).mono ?_
        rintro e w10 ⟨⟨A10, c10, r10, rfl, hr10, hd10⟩, hb10⟩
        have HD10 := Lib.hid hd10
        have B10 := bt B9 hb10
        clear hd10
        generalize hlen2 : R2.length = n2
        have HL2 := Lib.hid hlen2
        clear hlen2
        go_wp2_with fail
        refine (refBoth_any A A2 n c m d a b _ HA.out (hr.keep B10 hle) B10.size n6 HS.out HB.out (hr2.keep B10 hle) B10.size m6 HS2.out).mono ?_
        rintro e w11 ⟨⟨A11, n11, c11, r11, rfl, hO11, hM11, _⟩, hb11⟩
        have HR11 : Hid (dL r11 = R2) := made_uniq hM11 HR2.out (fun _ => Iff.rfl)
        have B11 := bt B10 hb11
        clear hM11
        have n2s : n2 ≤ maxLen := by
          rw [← HL2.out, ← HR11.out, dL_len, hO11.len]
          exact Nat.le_trans hO11.cap.1 hO11.cap.2
        go_wp2_with fail
        refine (refSame_is A10 A11 n2 c10 n11 c11 r10 r11 _ true ((sameB_of HD10.out HR11.out).trans (decide_eq_true rfl)) (len_of HD10.out HL2.out) (hr10.keep hb11 (Nat.le_refl _)) n2s hO11.len hO11.rd).mono ?_
        rintro e w12 ⟨rfl, hD12⟩
        have B12 := bt B11 (hD12.below _)
        go_wp2_with fail
        refine (hC.both A2 A m d n c b a _ R2 (hL.keep B12) HB.out (up hr2 hle B12) HA.out (up hr hle B12) HG2.out HG.out HR3.out).mono ?_
        rintro e w13 ⟨⟨A13, c13, r13, rfl, hr13, hd13⟩, hb13⟩
        have HD13 := Lib.hid hd13
        have B13 := bt B12 hb13
        clear hd13
        generalize hlen3 : R2.length = n3
        have HL3 := Lib.hid hlen3
        clear hlen3
        go_wp2_with fail
        refine (refBoth_any A A2 n c m d a b _ HA.out (hr.keep B13 hle) B13.size n6 HS.out HB.out (hr2.keep B13 hle) B13.size m6 HS2.out).mono ?_
        rintro e w14 ⟨⟨A14, n14, c14, r14, rfl, hO14, hM14, _⟩, hb14⟩
        have HR14 : Hid (dL r14 = R2) := made_uniq hM14 HR2.out (fun _ => Iff.rfl)
        have B14 := bt B13 hb14
        clear hM14
        have n3s : n3 ≤ maxLen := by
          rw [← HL3.out, HL2.out]
          exact n2s
        go_wp2_with fail
        refine (refSame_is A13 A14 n3 c13 n14 c14 r13 r14 _ true ((sameB_of HD13.out HR14.out).trans (decide_eq_true rfl)) (len_of HD13.out HL3.out) (hr13.keep hb14 (Nat.le_refl _)) n3s hO14.len hO14.rd).mono ?_
        rintro e w15 ⟨rfl, hD15⟩
        go_wp2_with fail
        go_ret
        exact ⟨rfl, bt B14 (hD15.below _)⟩
      · go_enter Try.func4, Try.ntmps4
        go_wp2_with fail
        refine (reachAwake hC w hL).mono ?_
        rintro e w1 ⟨rfl, B1⟩
        go_wp2_with fail
        refine (refRGood_is A n c a _ true HG.out HA.out (hr.keep B1 hle) hm HS.out).mono ?_
        rintro e w2 ⟨rfl, hD2⟩
        have B2 := bt B1 (hD2.below _)
        clear B1 hD2
        go_wp2_with fail
        refine (refRGood_is A2 m d b _ true HG2.out HB.out (hr2.keep B2 hle) hm2 HS2.out).mono ?_
        rintro e w3 ⟨rfl, hD3⟩
        have B3 := bt B2 (hD3.below _)
        clear B2 hD3
        go_wp2_with fail
        refine (join_full hJ A A2 n c m d a b _ R (hL.keep B3) HA.out (up hr hle B3) HB.out (up hr2 hle B3) HG.out HG2.out HR.out H6).mono ?_
        rintro e w4 ⟨rfl, hb4⟩
        have B4 := bt B3 hb4
        have hle4 := B4.size
        have ho0 := OwnS.lit w4 (base := w4.heap.size) (n := 0) #[] [] rfl rfl (Nat.le_refl _) (Nat.zero_le _)
        have r4a := (hr.keep B4 hle).keep (b0 w4 (.cells #[] 9)) hle4
        go_wp2_with (first
          | (at_builtin; refine wpList_apS (base := w4.heap.size) (n := 0) (m := n) (l := []) (l2 := a) (by rfl) _ _ (by rfl) Try.underlying22 Try.underlying25 hi0 hz0 hz1 hz2 (by rfl) (by rfl) ho0 r4a HA.out n (by omega) (by omega) (by simp) ?_; intro A5 c5 w5 hO5 hb5 hg5; have B5 := (B4.alloc B4.size (.cells #[] 9)).trans (hb5.mono B4.size); have hb45 := below_alloc_trans hb5; have r5b := hr2.keep B5 hle)
          | (at_builtin; refine wpList_apS (base := w4.heap.size) (n := n) (m := m) (l := [] ++ a) (l2 := b) (by rfl) _ _ (by rfl) Try.underlying22 Try.underlying25 hi0 hz0 hz1 hz2 (by rfl) (by rfl) hO5 r5b HB.out (n + m) (by omega) (by omega) hb45.size ?_; intro A6 c6 w6 hO6 hb6 hg6; have B6 := B5.trans (hb6.mono B4.size); have hb46 := hb45.trans hb6))
        have hsz6 : ∀ x, x ∈ [] ++ a ++ b → x.size ≤ maxLen := fun x hx => by
          rw [List.nil_append, List.mem_append] at hx
          exact hx.elim (HS.out x) (HS2.out x)
        have HZ6 := Lib.hid hsz6
        clear hsz6 r4a r5b ho0 hO5
        refine (refMade_any A6 (n + m) c6 _ _ hO6.len hO6.rd (Nat.le_refl _) (by omega) HZ6.out).mono ?_
        rintro e w7 ⟨⟨A7, n7, c7, r7, rfl, hO7, hM7, hI7⟩, hb7⟩
        have HR7 : Hid (dL r7 = R) := made_uniq (madeTo_is hM7 (dL_len _).symm) HR.out (fun x => by rw [List.nil_append, dL_app])
        have hn7 : n7 = R.length := by rw [← HR7.out, dL_len, hO7.len]
        have B7 := bt B6 hb7
        have hb47 : Below w4.heap.size w4 w7 := hb46.trans (hb7.mono hb46.size)
        clear hM7 hI7 hO6
        have h7a : (6 : Int) < (n7 : Int) := by omega
        have HN7 := Lib.hid hn7
        clear hn7
        go_wp2_with fail
        refine (hC.covers A A2 n c m d a b _ (hL.keep B7) HA.out (up hr hle B7) HB.out (up hr2 hle B7) HG.out HG2.out).mono ?_
        rintro e w9 ⟨rfl, hb9⟩
        have B9 := bt B7 hb9
        go_wp2_with fail
        refine (refCovers_any A A2 n c m d a b _ HA.out (hr.keep B9 hle) hm HB.out (hr2.keep B9 hle) hm2).mono ?_
        rintro e w9' ⟨rfl, rfl⟩
        generalize covB (dL a) (dL b) = gb
        go_wp2_with fail
        refine (hC.both A A2 n c m d a b _ R2 (hL.keep B9) HA.out (up hr hle B9) HB.out (up hr2 hle B9) HG.out HG2.out HR2.out).mono ?_
        rintro e w10 ⟨⟨A10, c10, r10, rfl, hr10, hd10⟩, hb10⟩
        have HD10 := Lib.hid hd10
        have B10 := bt B9 hb10
        clear hd10
        generalize hlen2 : R2.length = n2
        have HL2 := Lib.hid hlen2
        clear hlen2
        go_wp2_with fail
        refine (refBoth_any A A2 n c m d a b _ HA.out (hr.keep B10 hle) B10.size n6 HS.out HB.out (hr2.keep B10 hle) B10.size m6 HS2.out).mono ?_
        rintro e w11 ⟨⟨A11, n11, c11, r11, rfl, hO11, hM11, _⟩, hb11⟩
        have HR11 : Hid (dL r11 = R2) := made_uniq hM11 HR2.out (fun _ => Iff.rfl)
        have B11 := bt B10 hb11
        clear hM11
        have n2s : n2 ≤ maxLen := by
          rw [← HL2.out, ← HR11.out, dL_len, hO11.len]
          exact Nat.le_trans hO11.cap.1 hO11.cap.2
        go_wp2_with fail
        refine (refSame_is A10 A11 n2 c10 n11 c11 r10 r11 _ true ((sameB_of HD10.out HR11.out).trans (decide_eq_true rfl)) (len_of HD10.out HL2.out) (hr10.keep hb11 (Nat.le_refl _)) n2s hO11.len hO11.rd).mono ?_
        rintro e w12 ⟨rfl, hD12⟩
        have B12 := bt B11 (hD12.below _)
        go_wp2_with fail
        refine (hC.both A2 A m d n c b a _ R2 (hL.keep B12) HB.out (up hr2 hle B12) HA.out (up hr hle B12) HG2.out HG.out HR3.out).mono ?_
        rintro e w13 ⟨⟨A13, c13, r13, rfl, hr13, hd13⟩, hb13⟩
        have HD13 := Lib.hid hd13
        have B13 := bt B12 hb13
        clear hd13
        generalize hlen3 : R2.length = n3
        have HL3 := Lib.hid hlen3
        clear hlen3
        go_wp2_with fail
        refine (refBoth_any A A2 n c m d a b _ HA.out (hr.keep B13 hle) B13.size n6 HS.out HB.out (hr2.keep B13 hle) B13.size m6 HS2.out).mono ?_
        rintro e w14 ⟨⟨A14, n14, c14, r14, rfl, hO14, hM14, _⟩, hb14⟩
        have HR14 : Hid (dL r14 = R2) := made_uniq hM14 HR2.out (fun _ => Iff.rfl)
        have B14 := bt B13 hb14
        clear hM14
        have n3s : n3 ≤ maxLen := by
          rw [← HL3.out, HL2.out]
          exact n2s
        go_wp2_with fail
        refine (refSame_is A13 A14 n3 c13 n14 c14 r13 r14 _ true ((sameB_of HD13.out HR14.out).trans (decide_eq_true rfl)) (len_of HD13.out HL3.out) (hr13.keep hb14 (Nat.le_refl _)) n3s hO14.len hO14.rd).mono ?_
        rintro e w15 ⟨rfl, hD15⟩
        go_wp2_with fail
        go_ret
        exact ⟨rfl, bt B14 (hD15.below _)⟩
    · have HG2 := Lib.hid (Bool.eq_false_iff.2 hg2)
      go_enter Try.func4, Try.ntmps4
      go_wp2_with fail
      refine (reachAwake hC w hL).mono ?_
      rintro e w1 ⟨rfl, B1⟩
      go_wp2_with fail
      refine (refRGood_is A n c a _ true HG.out HA.out (hr.keep B1 hle) hm HS.out).mono ?_
      rintro e w2 ⟨rfl, hD2⟩
      have B2 := bt B1 (hD2.below _)
      go_wp2_with fail
      refine (refRGood_is A2 m d b _ false HG2.out HB.out (hr2.keep B2 hle) hm2 HS2.out).mono ?_
      rintro e w3 ⟨rfl, hD3⟩
      have B3 := bt B2 (hD3.below _)
      go_wp2_with fail
      refine (reachAwake hC _ (hL.keep B3)).mono ?_
      rintro e w4 ⟨rfl, hb4⟩
      go_wp2_with fail
      go_ret
      exact ⟨rfl, bt B3 hb4⟩
  · have HG := Lib.hid (Bool.eq_false_iff.2 hg)
    go_enter Try.func4, Try.ntmps4
    go_wp2_with fail
    refine (reachAwake hC w hL).mono ?_
    rintro e w1 ⟨rfl, B1⟩
    go_wp2_with fail
    refine (refRGood_is A n c a _ false HG.out HA.out (hr.keep B1 hle) hm HS.out).mono ?_
    rintro e w2 ⟨rfl, hD2⟩
    have B2 := bt B1 (hD2.below _)
    go_wp2_with fail
    refine (reachAwake hC _ (hL.keep B2)).mono ?_
    rintro e w4 ⟨rfl, hb4⟩
    go_wp2_with fail
    go_ret
    exact ⟨rfl, bt B2 hb4⟩
end Go.Proofs.Ytokkmofcijfmiaa
