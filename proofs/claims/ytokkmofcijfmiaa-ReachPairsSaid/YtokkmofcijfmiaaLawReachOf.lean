/-
  WHAT IS PROVED: the statement ReachOf's law answers true for every slice of strings, if package reach's calls answer as ReachC says. Conditions: those typed in the theorem.
-/
import Derived.Test.YtokkmofcijfmiaaReachAwake
import Derived.Test.YtokkmofcijfmiaaReachShort
import Derived.Test.YtokkmofcijfmiaaReachMade
import Derived.Test.YtokkmofcijfmiaaReachBoth
namespace Go.Proofs.Ytokkmofcijfmiaa
open Go.RowKit

/-- The code that the loop has. -/
def codeTo (l : List (List UInt8)) (k : Nat) : Int := if (l.take k).all preB = true then 0 else 2
theorem codeTo_step {l : List ByteArray} {k : Nat} {x : ByteArray} (h : l[k]? = some x) : codeTo (dL l) (k + 1) = if preB x.data.toList = true then codeTo (dL l) k else 2 := by
  unfold codeTo
  rw [take_succ_get h, List.all_append]
  simp only [List.all_cons, List.all_nil, Bool.and_true, Bool.and_eq_true]
  by_cases hp : preB x.data.toList = true
  · simp [hp]
  · simp [hp]
theorem codeTo_all {l : List (List UInt8)} {k : Nat} (h : k = l.length) : codeTo l k = if l.all preB = true then 0 else 2 := by
  subst h
  unfold codeTo
  rw [List.take_length]

set_option maxRecDepth 100000 in
set_option maxHeartbeats 4000000 in
theorem lawReachOf_any (hC : ReachC) (A : Option Addr) (n c : Nat) (l : List ByteArray) (w : World) (hL : LaidR w) (hn : l.length = n) (hr : RdS w.heap.size w A l) (hm : n ≤ maxLen) :
    Calls Try.prog 3 #[.slice A n c] w fun e w' => e = .returned (.bool true) ∧ Below w.heap.size w w' := by
  by_cases hs : shortB l = true
  · have HS := Lib.hid hs
    obtain ⟨h40, h100⟩ := shortB_yes hs
    rw [hn] at h40
    have HZ := Lib.hid h100
    have HN := Lib.hid hn
    clear hs h100 hn
    go_enter Try.func3, Try.ntmps3
    go_wp2_with fail
    refine (reachAwake hC w hL).mono ?_
    rintro e w1 ⟨rfl, hb1⟩
    go_wp2_with fail
    refine (short_is A n c l _ true HS.out HN.out (hr.keep hb1 (Nat.le_refl _)) hm).mono ?_
    rintro e w1' ⟨rfl, rfl⟩
    go_wp2_with fail
    have hr1 := (hr.keep hb1 (Nat.le_refl _)).more hb1.size
    obtain ⟨R, hR⟩ := made_ex (dL l)
    have HR := Lib.hid hR
    clear hR
    by_cases hp : (dL l).all preB = true
    · have HP := Lib.hid hp
      clear hp
      by_cases H6 : R.length ≤ 6
      · refine (of_ok hC.of A n c l _ R (hL.keep hb1) HN.out hr1 (by omega) (fun y hy => Nat.le_trans (HZ.out y hy) (by omega)) HR.out HP.out H6).mono ?_
        rintro e w2 ⟨⟨A1, c1, r1, rfl, hra, hda⟩, hb2⟩
        have HDA := Lib.hid hda
        clear hda
        generalize hlen : R.length = nR at H6 ⊢
        have HLR := Lib.hid hlen
        clear hlen
        have HGR : Hid (goodR (dL r1) = true) := by
          show _ = _
          rw [HDA.out]
          exact made_good HR.out (fun y hy => List.all_eq_true.1 HP.out y hy) (by rw [HLR.out]; exact H6)
        have HZR : Hid (Sz 20 r1) := goodR_sizes HGR.out
        have B2 := bt hb1 hb2
        have hrl2 := (hr.keep B2 (Nat.le_refl _)).more B2.size
        go_wp2_with fail
        go_loopw [5, 24] (fun u i wr => ∃ (k : Nat) (v : Int), k ≤ n ∧ i = .int .i64 k ∧ u = .int .i64 v ∧ Hid (v = codeTo (dL l) k) ∧ Below w2.heap.size w2 wr) (fun _ i _ => n - (intOf i).toNat)
        case atStart => exact ⟨0, 0, Nat.zero_le _, rfl, rfl, rfl, Below.refl _ _⟩
        case round =>
          obtain ⟨k, v, hk, rfl, rfl, hV, hB⟩ := hrel
          by_cases hlt : k < n
          · obtain ⟨x, hx⟩ := get_ex (show k < l.length by have := HN.out; omega)
            have hrw := hrl2.keep hB (Nat.le_refl _)
            obtain ⟨ad, rfl, _, hc⟩ := hrw k x hx
            have i1 : (0 : Int) ≤ (k : Int) := by omega
            have i2 : (k : Int) < (n : Int) := by omega
            have hxz := HZ.out x (List.mem_of_getElem? hx)
            have hst := codeTo_step hx
            have h1s : ∀ y, y ∈ [x] → y.size ≤ maxLen := fun y hy => by rw [List.mem_singleton.1 hy]; unfold maxLen; omega
            have H1S := Lib.hid h1s
            have hgd : goodR (dL [x]) = preB x.data.toList := goodR_one _
            have hB2 := hB.alloc hB.size (.cells #[.string x] 9)
            clear hx h1s
            by_cases hp : preB x.data.toList = true
            · have HV2 : Hid (v = codeTo (dL l) (k + 1)) := by show _ = _; rw [hst, if_pos hp]; exact hV.out
              have HG := Lib.hid (hgd.trans hp)
              clear hst hgd hp hV
              go_wp2_with fail
              refine (refRGood_is _ 1 1 [x] _ true HG.out rfl (rdOne wr x _ rfl) one_max H1S.out).mono ?_
              rintro e w4 ⟨rfl, hD4⟩
              go_wp2_with fail
              go_roundw
              case rel => exact ⟨k + 1, v, by omega, by go_num, rfl, HV2, hB2.trans (hD4.below _)⟩
              case measure => simp [intOf]; omega
            · have HV2 : Hid (2 = codeTo (dL l) (k + 1)) := by show _ = _; rw [hst, if_neg hp]
              have HG := Lib.hid (hgd.trans (Bool.eq_false_iff.2 hp))
              clear hst hgd hp hV
              go_wp2_with fail
              refine (refRGood_is _ 1 1 [x] _ false HG.out rfl (rdOne wr x _ rfl) one_max H1S.out).mono ?_
              rintro e w4 ⟨rfl, hD4⟩
              go_wp2_with fail
              go_roundw
              case rel => exact ⟨k + 1, 2, by omega, by go_num, rfl, HV2, hB2.trans (hD4.below _)⟩
              case measure => simp [intOf]; omega
          · have hq : ¬ (k : Int) < (n : Int) := by omega
            have hv : v = 0 := by
              rw [hV.out, codeTo_all (by rw [dL_len, HN.out]; omega)]
              rw [if_pos HP.out]
            subst hv
            have hrw := hrl2.keep hB (Nat.le_refl _)
            clear hV
            go_wp2_with fail
            refine (refMade_any A n c l _ HN.out hrw hB.size (by omega) (fun y hy => Nat.le_trans (HZ.out y hy) (by unfold maxLen; omega))).mono ?_
            rintro e w5 ⟨⟨A5, n5, c5, r5, rfl, hO5, hM5, hI5⟩, hb5⟩
            have HR5 : Hid (dL r5 = R) := made_uniq (madeTo_is hM5 (dL_len _).symm) HR.out (fun _ => Iff.rfl)
            have hn5 : n5 = R.length := by rw [← HR5.out, dL_len, hO5.len]
            clear hM5 hI5
            have B5 := bt (B2.trans (hB.mono B2.size)) hb5
            have h56 : (n5 : Int) ≤ 6 := by have := HLR.out; omega
            have hra5 := (hra.keep hB (Nat.le_refl _)).keep hb5 hB.size
            have HN5 := Lib.hid hn5
            clear hn5
            go_wp2_with fail
            refine (hC.good A n c l _ (hL.keep B5) HN.out ((hr.keep B5 (Nat.le_refl _)).more B5.size) (by omega) (fun y hy => Nat.le_trans (HZ.out y hy) (by omega))).mono ?_
            rintro e w6 ⟨rfl, hb6⟩
            have B6 := bt B5 hb6
            go_wp2_with fail
            refine (refRGood_any A n c l _ HN.out (hr.keep B6 (Nat.le_refl _)) hm (fun y hy => Nat.le_trans (HZ.out y hy) (by unfold maxLen; omega))).mono ?_
            rintro e w7 ⟨rfl, hD7⟩
            have B7 := bt B6 (hD7.below _)
            have hb57 := bt hb6 (hD7.below _)
            generalize goodR (dL l) = gb
            go_wp2_with fail
            refine (refSame_is A1 A5 nR c1 n5 c5 r1 r5 _ true ((sameB_of HDA.out HR5.out).trans (decide_eq_true rfl)) (len_of HDA.out HLR.out) (hra5.keep hb57 (Nat.le_trans hB.size hb5.size)) (small_max (by omega)) hO5.len (hO5.rd.keep hb57 (Nat.le_refl _))).mono ?_
            rintro e w8 ⟨rfl, hD8⟩
            have B8 := bt B7 (hD8.below _)
            go_wp2_with fail
            refine (good_is hC.good A1 nR c1 r1 _ true HGR.out (hL.keep B8) (len_of HDA.out HLR.out) ((hra5.keep (bt hb57 (hD8.below _)) (Nat.le_trans hB.size hb5.size)).more (by have := hD8.size; have := hb57.size; have := hb5.size; have := hB.size; omega)) (by omega) (fun y hy => Nat.le_trans (HZR.out y hy) (by omega))).mono ?_
            rintro e w9 ⟨rfl, hb9⟩
            go_wp2_with fail
            go_ret
            exact ⟨rfl, bt B8 hb9⟩
      · refine (of_full hC.of A n c l _ R (hL.keep hb1) HN.out hr1 (by omega) (fun y hy => Nat.le_trans (HZ.out y hy) (by omega)) HR.out HP.out H6).mono ?_
        rintro e w2 ⟨rfl, hb2⟩
        have B2 := bt hb1 hb2
        have hrl2 := (hr.keep B2 (Nat.le_refl _)).more B2.size
        go_wp2_with fail
        go_loopw [5, 24] (fun u i wr => ∃ (k : Nat) (v : Int), k ≤ n ∧ i = .int .i64 k ∧ u = .int .i64 v ∧ Hid (v = codeTo (dL l) k) ∧ Below w2.heap.size w2 wr) (fun _ i _ => n - (intOf i).toNat)
        case atStart => exact ⟨0, 0, Nat.zero_le _, rfl, rfl, rfl, Below.refl _ _⟩
        case round =>
          obtain ⟨k, v, hk, rfl, rfl, hV, hB⟩ := hrel
          by_cases hlt : k < n
          · obtain ⟨x, hx⟩ := get_ex (show k < l.length by have := HN.out; omega)
            have hrw := hrl2.keep hB (Nat.le_refl _)
            obtain ⟨ad, rfl, _, hc⟩ := hrw k x hx
            have i1 : (0 : Int) ≤ (k : Int) := by omega
            have i2 : (k : Int) < (n : Int) := by omega
            have hxz := HZ.out x (List.mem_of_getElem? hx)
            have hst := codeTo_step hx
            have h1s : ∀ y, y ∈ [x] → y.size ≤ maxLen := fun y hy => by rw [List.mem_singleton.1 hy]; unfold maxLen; omega
            have H1S := Lib.hid h1s
            have hgd : goodR (dL [x]) = preB x.data.toList := goodR_one _
            have hB2 := hB.alloc hB.size (.cells #[.string x] 9)
            clear hx h1s
            by_cases hp : preB x.data.toList = true
            · have HV2 : Hid (v = codeTo (dL l) (k + 1)) := by show _ = _; rw [hst, if_pos hp]; exact hV.out
              have HG := Lib.hid (hgd.trans hp)
              clear hst hgd hp hV
              go_wp2_with fail
              refine (refRGood_is _ 1 1 [x] _ true HG.out rfl (rdOne wr x _ rfl) one_max H1S.out).mono ?_
              rintro e w4 ⟨rfl, hD4⟩
              go_wp2_with fail
              go_roundw
              case rel => exact ⟨k + 1, v, by omega, by go_num, rfl, HV2, hB2.trans (hD4.below _)⟩
              case measure => simp [intOf]; omega
            · have HV2 : Hid (2 = codeTo (dL l) (k + 1)) := by show _ = _; rw [hst, if_neg hp]
              have HG := Lib.hid (hgd.trans (Bool.eq_false_iff.2 hp))
              clear hst hgd hp hV
              go_wp2_with fail
              refine (refRGood_is _ 1 1 [x] _ false HG.out rfl (rdOne wr x _ rfl) one_max H1S.out).mono ?_
              rintro e w4 ⟨rfl, hD4⟩
              go_wp2_with fail
              go_roundw
              case rel => exact ⟨k + 1, 2, by omega, by go_num, rfl, HV2, hB2.trans (hD4.below _)⟩
              case measure => simp [intOf]; omega
          · have hq : ¬ (k : Int) < (n : Int) := by omega
            have hv : v = 0 := by
              rw [hV.out, codeTo_all (by rw [dL_len, HN.out]; omega)]
              rw [if_pos HP.out]
            subst hv
            have hrw := hrl2.keep hB (Nat.le_refl _)
            clear hV
            go_wp2_with fail
            refine (refMade_any A n c l _ HN.out hrw hB.size (by omega) (fun y hy => Nat.le_trans (HZ.out y hy) (by unfold maxLen; omega))).mono ?_
            rintro e w5 ⟨⟨A5, n5, c5, r5, rfl, hO5, hM5, hI5⟩, hb5⟩
            have HR5 : Hid (dL r5 = R) := made_uniq (madeTo_is hM5 (dL_len _).symm) HR.out (fun _ => Iff.rfl)
            have hn5 : n5 = R.length := by rw [← HR5.out, dL_len, hO5.len]
            clear hM5 hI5
            have B5 := bt (B2.trans (hB.mono B2.size)) hb5
            have h56 : (6 : Int) < (n5 : Int) := by omega
            clear hn5
            go_wp2_with fail
            refine (hC.good A n c l _ (hL.keep B5) HN.out ((hr.keep B5 (Nat.le_refl _)).more B5.size) (by omega) (fun y hy => Nat.le_trans (HZ.out y hy) (by omega))).mono ?_
            rintro e w6 ⟨rfl, hb6⟩
            have B6 := bt B5 hb6
            go_wp2_with fail
            refine (refRGood_any A n c l _ HN.out (hr.keep B6 (Nat.le_refl _)) hm (fun y hy => Nat.le_trans (HZ.out y hy) (by unfold maxLen; omega))).mono ?_
            rintro e w7 ⟨rfl, hD7⟩
            have B7 := bt B6 (hD7.below _)
            generalize goodR (dL l) = gb
            go_wp2_with fail
            go_ret
            exact ⟨rfl, B7⟩
    · have HP := Lib.hid (Bool.eq_false_iff.2 hp)
      clear hp
      refine (of_bad hC.of A n c l _ (hL.keep hb1) HN.out hr1 (by omega) (fun y hy => Nat.le_trans (HZ.out y hy) (by omega)) HP.out).mono ?_
      rintro e w2 ⟨rfl, hb2⟩
      have B2 := bt hb1 hb2
      have hrl2 := (hr.keep B2 (Nat.le_refl _)).more B2.size
      go_wp2_with fail
      go_loopw [5, 24] (fun u i wr => ∃ (k : Nat) (v : Int), k ≤ n ∧ i = .int .i64 k ∧ u = .int .i64 v ∧ Hid (v = codeTo (dL l) k) ∧ Below w2.heap.size w2 wr) (fun _ i _ => n - (intOf i).toNat)
      case atStart => exact ⟨0, 0, Nat.zero_le _, rfl, rfl, rfl, Below.refl _ _⟩
      case round =>
        obtain ⟨k, v, hk, rfl, rfl, hV, hB⟩ := hrel
        by_cases hlt : k < n
        · obtain ⟨x, hx⟩ := get_ex (show k < l.length by have := HN.out; omega)
          have hrw := hrl2.keep hB (Nat.le_refl _)
          obtain ⟨ad, rfl, _, hc⟩ := hrw k x hx
          have i1 : (0 : Int) ≤ (k : Int) := by omega
          have i2 : (k : Int) < (n : Int) := by omega
          have hxz := HZ.out x (List.mem_of_getElem? hx)
          have hst := codeTo_step hx
          have h1s : ∀ y, y ∈ [x] → y.size ≤ maxLen := fun y hy => by rw [List.mem_singleton.1 hy]; unfold maxLen; omega
          have H1S := Lib.hid h1s
          have hgd : goodR (dL [x]) = preB x.data.toList := goodR_one _
          have hB2 := hB.alloc hB.size (.cells #[.string x] 9)
          clear hx h1s
          by_cases hp : preB x.data.toList = true
          · have HV2 : Hid (v = codeTo (dL l) (k + 1)) := by show _ = _; rw [hst, if_pos hp]; exact hV.out
            have HG := Lib.hid (hgd.trans hp)
            clear hst hgd hp hV
            go_wp2_with fail
            refine (refRGood_is _ 1 1 [x] _ true HG.out rfl (rdOne wr x _ rfl) one_max H1S.out).mono ?_
            rintro e w4 ⟨rfl, hD4⟩
            go_wp2_with fail
            go_roundw
            case rel => exact ⟨k + 1, v, by omega, by go_num, rfl, HV2, hB2.trans (hD4.below _)⟩
            case measure => simp [intOf]; omega
          · have HV2 : Hid (2 = codeTo (dL l) (k + 1)) := by show _ = _; rw [hst, if_neg hp]
            have HG := Lib.hid (hgd.trans (Bool.eq_false_iff.2 hp))
            clear hst hgd hp hV
            go_wp2_with fail
            refine (refRGood_is _ 1 1 [x] _ false HG.out rfl (rdOne wr x _ rfl) one_max H1S.out).mono ?_
            rintro e w4 ⟨rfl, hD4⟩
            go_wp2_with fail
            go_roundw
            case rel => exact ⟨k + 1, 2, by omega, by go_num, rfl, HV2, hB2.trans (hD4.below _)⟩
            case measure => simp [intOf]; omega
        · have hq : ¬ (k : Int) < (n : Int) := by omega
          have hv : v = 2 := by
            rw [hV.out, codeTo_all (by rw [dL_len, HN.out]; omega)]
            rw [if_neg (by rw [HP.out]; exact Bool.false_ne_true)]
          subst hv
          have hrw := hrl2.keep hB (Nat.le_refl _)
          clear hV
          go_wp2_with fail
          refine (refMade_any A n c l _ HN.out hrw hB.size (by omega) (fun y hy => Nat.le_trans (HZ.out y hy) (by unfold maxLen; omega))).mono ?_
          rintro e w5 ⟨⟨A5, n5, c5, r5, rfl, hO5, hM5, hI5⟩, hb5⟩
          have HR5 : Hid (dL r5 = R) := made_uniq (madeTo_is hM5 (dL_len _).symm) HR.out (fun _ => Iff.rfl)
          have hn5 : n5 = R.length := by rw [← HR5.out, dL_len, hO5.len]
          clear hM5 hI5
          have B5 := bt (B2.trans (hB.mono B2.size)) hb5
          go_wp2_with fail
          refine (hC.good A n c l _ (hL.keep B5) HN.out ((hr.keep B5 (Nat.le_refl _)).more B5.size) (by omega) (fun y hy => Nat.le_trans (HZ.out y hy) (by omega))).mono ?_
          rintro e w6 ⟨rfl, hb6⟩
          have B6 := bt B5 hb6
          go_wp2_with fail
          refine (refRGood_any A n c l _ HN.out (hr.keep B6 (Nat.le_refl _)) hm (fun y hy => Nat.le_trans (HZ.out y hy) (by unfold maxLen; omega))).mono ?_
          rintro e w7 ⟨rfl, hD7⟩
          have B7 := bt B6 (hD7.below _)
          generalize goodR (dL l) = gb
          go_wp2_with fail
          go_ret
          exact ⟨rfl, B7⟩
  · have HS := Lib.hid (Bool.eq_false_iff.2 hs)
    have HN := Lib.hid hn
    clear hs hn
    go_enter Try.func3, Try.ntmps3
    go_wp2_with fail
    refine (reachAwake hC w hL).mono ?_
    rintro e w1 ⟨rfl, hb1⟩
    go_wp2_with fail
    refine (short_is A n c l _ false HS.out HN.out (hr.keep hb1 (Nat.le_refl _)) hm).mono ?_
    rintro e w1' ⟨rfl, rfl⟩
    go_wp2_with fail
    refine (reachAwake hC _ (hL.keep hb1)).mono ?_
    rintro e w2 ⟨rfl, hb2⟩
    go_wp2_with fail
    go_ret
    exact ⟨rfl, bt hb1 hb2⟩
end Go.Proofs.Ytokkmofcijfmiaa
