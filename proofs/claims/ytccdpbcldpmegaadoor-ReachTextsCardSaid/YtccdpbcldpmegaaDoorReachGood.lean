/-
  WHAT IS PROVED: slices.Equal of two slices of strings; reach.Good tells whether a list is a reach (GoodC); reach.Of makes the reach of any prefixes, or tells what is wrong (OfC). Conditions: those typed in each definition.
-/
import Derived.Test.YtccdpbcldpmegaaDoorReachLeast2
import Derived.Test.YtccdpbcldpmegaaDoorFresh
import Derived.Test.YtccdpbcldpmegaaDoorReachIface
namespace Go.Proofs.YtccdpbcldpmegaaDoor
open Go.RowKit

set_option maxHeartbeats 1000000 in
theorem equal_any {B C : Nat} (A A2 : Option Addr) (n c m d : Nat) (l l2 : List ByteArray) (w : World) (hn : l.length = n) (hr : RdS B w A l) (hm : n ≤ maxLen) (hn2 : l2.length = m) (hr2 : RdS C w A2 l2) :
    Calls Tryd.prog 30 #[.slice A n c, .slice A2 m d] w fun e w' => e = .returned (.bool (sameB l l2)) ∧ Drn w w' := by
  unfold maxLen at hm
  have HN := Lib.hid hn
  have HN2 := Lib.hid hn2
  clear hn hn2
  by_cases hnm : n = m
  · subst hnm
    go_enter Tryd.func30, Tryd.ntmps30
    go_wp2_with fail
    go_loopw [13] (fun i wr => ∃ k : Nat, k ≤ n ∧ i = .int .i64 k ∧ Hid (∀ j, j < k → atR (dL l) j = atR (dL l2) j) ∧ Drn w wr) (fun i _ => n - (intOf i).toNat)
    case atStart => exact ⟨0, Nat.zero_le _, rfl, fun j hj => by omega, Drn.refl _⟩
    case round =>
      obtain ⟨k, hk, rfl, hA, hD⟩ := hrel
      by_cases hlt : k < n
      · obtain ⟨x, hx⟩ := get_ex (show k < l.length by have := HN.out; omega)
        obtain ⟨y, hy⟩ := get_ex (show k < l2.length by have := HN2.out; omega)
        obtain ⟨ad, rfl, _, hc⟩ := (hr.keep (hD.below B) (Nat.le_refl _)) k x hx
        obtain ⟨ad2, rfl, _, hc2⟩ := (hr2.keep (hD.below C) (Nat.le_refl _)) k y hy
        have i1 : (0 : Int) ≤ (k : Int) := by omega
        have i2 : (k : Int) < (n : Int) := by omega
        have HX := Lib.hid hx
        have HY := Lib.hid hy
        clear hx hy
        by_cases hxy : x.data.toList = y.data.toList
        · have e0 : (x.toList == y.toList) = true := by rw [str_eqB, hxy]; simp
          have HA2 : Hid (∀ j, j < k + 1 → atR (dL l) j = atR (dL l2) j) := fun j hj => by
            by_cases e : j = k
            · subst e
              rw [dL_at HX.out, dL_at HY.out, hxy]
            · exact hA.out j (by omega)
          clear hxy hA
          go_wp2_with fail
          go_quiet (fail)
          go_wp2_with fail
          go_roundw
          case rel => exact ⟨k + 1, by omega, by go_num, HA2, hD.draws _⟩
          case measure => simp [intOf]; omega
        · have e0 : (x.toList == y.toList) = false := by rw [str_eqB]; simpa using hxy
          have R := Lib.hid (same_no HX.out HY.out hxy)
          clear hxy hA
          go_wp2_with fail
          go_quiet (fail)
          go_wp2_with fail
          go_ret
          exact ⟨ret_bool R.out.symm, hD.draws _⟩
      · have hq : ¬ (k : Int) < (n : Int) := by omega
        have R : Hid (sameB l l2 = true) := same_yes (HN.out.trans HN2.out.symm) fun j hj => hA.out j (by have := HN.out; omega)
        clear hA
        go_wp2_with fail
        go_ret
        exact ⟨ret_bool R.out.symm, hD⟩
  · have e0 : ((n : Int) != (m : Int)) = true := by rw [bne_iff_ne]; omega
    have R := Lib.hid (same_len (l := l) (l2 := l2) (by rw [HN.out, HN2.out]; exact hnm))
    clear hnm
    go_enter Tryd.func30, Tryd.ntmps30
    go_wp2_with fail
    go_ret
    exact ⟨ret_bool R.out.symm, Drn.refl _⟩

theorem goodC : GoodC := by
  intro A n c l w _ hn hr hm hs
  have hm1 : n ≤ maxLen := by unfold maxLen; omega
  have hs1 : ∀ x, x ∈ l → x.size ≤ maxLen := fun x hx => Nat.le_trans (hs x hx) (by unfold maxLen; omega)
  have HG := Lib.hid (goodR_least (dL l))
  by_cases h6 : n ≤ 6
  · have i6 : (n : Int) ≤ 6 := by omega
    cases hp : (dL l).all preB with
    | true =>
      have HP := Lib.hid hp
      have R : Hid (sameB l (baL (leastOf (dL l))) = goodR (dL l)) := by
        show _ = _
        rw [HG.out, hp, dL_len, hn, decide_eq_true h6, Bool.true_and, Bool.true_and]
        unfold sameB
        rw [dL_baL]
      clear hp HG
      go_enter Tryd.func15, Tryd.ntmps15
      go_wp2_with fail
      refine (prefixes_is A n c l w true HP.out hn hr hm1 hs1).mono ?_
      rintro e w2 ⟨rfl, hb2⟩
      go_wp2_with fail
      refine (least_any A n c l w2 hn ((hr.keep hb2 (Nat.le_refl _)).more hb2.size) (by omega)).mono ?_
      rintro e w3 ⟨⟨A3, c3, r3, rfl, hO3, hd3⟩, hb3⟩
      have R2 : Hid (sameB l r3 = goodR (dL l)) := by
        rw [← R.out]
        unfold sameB
        rw [dL_baL, hd3]
        exact rfl
      have hl3 : r3.length = (leastOf (dL l)).length := hO3.len
      generalize (leastOf (dL l)).length = m3 at hO3 hl3 ⊢
      clear hd3 R
      go_wp2_with fail
      refine (equal_any A A3 n c m3 c3 l r3 w3 hn ((hr.keep hb2 (Nat.le_refl _)).keep hb3 hb2.size) hm1 hl3 hO3.rd).mono ?_
      rintro e w4 ⟨rfl, hD4⟩
      generalize sameB l r3 = v at R2 ⊢
      go_wp2_with fail
      go_ret
      exact ⟨ret_bool R2.out, (bt hb2 hb3).trans ((hD4.below _))⟩
    | false =>
      have HP := Lib.hid hp
      have R : Hid (goodR (dL l) = false) := by
        show _ = _
        rw [HG.out, hp]
        simp
      clear hp HG
      go_enter Tryd.func15, Tryd.ntmps15
      go_wp2_with fail
      refine (prefixes_is A n c l w false HP.out hn hr hm1 hs1).mono ?_
      rintro e w2 ⟨rfl, hb2⟩
      go_wp2_with fail
      go_ret
      exact ⟨ret_bool R.out.symm, hb2⟩
  · have i6 : (6 : Int) < (n : Int) := by omega
    have R : Hid (goodR (dL l) = false) := by
      show _ = _
      rw [HG.out, dL_len, hn, decide_eq_false h6, Bool.false_and]
    clear HG
    go_enter Tryd.func15, Tryd.ntmps15
    go_wp2_with fail
    go_ret
    exact ⟨ret_bool R.out.symm, Below.refl _ _⟩

theorem rd_own {base : Nat} {W : World} {A : Option Addr} {n c : Nat} {l : List ByteArray} (h : OwnS base W A n c l) {W' : World} (hb : Below W.heap.size W W') : RdS W'.heap.size W' A l := (h.rd.keep hb (Nat.le_refl _)).more hb.size
/-- Each that is left was there. -/
theorem leastOf_sz {l r : List ByteArray} (h : dL r = leastOf (dL l)) {N : Nat} (hs : ∀ x, x ∈ l → x.size ≤ N) : ∀ x, x ∈ r → x.size ≤ N := by
  intro x hx
  have h1 : x.data.toList ∈ leastOf (dL l) := by rw [← h]; exact List.mem_map_of_mem hx
  have h2 := (((least_made (dL l)).2 _).1 h1).1
  obtain ⟨y, hy, e⟩ := List.mem_map.1 h2
  have e1 : x.data.toList.length = x.size := Array.length_toList
  have e2 : y.data.toList.length = y.size := Array.length_toList
  rw [← e1, ← e, e2]
  exact hs y hy
theorem ofC : OfC := by
  intro A n c l w R _ hn hr hm hs hR
  have hm1 : n ≤ maxLen := by unfold maxLen; omega
  have hs1 : ∀ x, x ∈ l → x.size ≤ maxLen := fun x hx => Nat.le_trans (hs x hx) (by unfold maxLen; omega)
  have HR : Hid (leastOf (dL l) = R) := made_uniq (least_made (dL l)) hR fun _ => Iff.rfl
  clear hR
  cases hp : (dL l).all preB with
  | true =>
    simp only [if_true]
    have HP := Lib.hid hp
    clear hp
    suffices hh : Calls Tryd.prog 11 #[.slice A n c] w fun e w' => ((R.length ≤ 6 → Ans R 0 e w') ∧ (¬ R.length ≤ 6 → e = .returned (.tuple #[.slice none 0 0, .int .i64 3]))) ∧ Below w.heap.size w w' by
      refine hh.mono fun e w' h => ⟨?_, h.2⟩
      by_cases h6 : R.length ≤ 6
      · rw [if_pos h6]; exact h.1.1 h6
      · rw [if_neg h6]; exact h.1.2 h6
    have HZ : Hid (∀ r : List ByteArray, dL r = R → ∀ x, x ∈ r → x.size ≤ 1000) := fun r hr => leastOf_sz (l := l) (by rw [hr, HR.out]) hs
    have hlen := leastOf_len (dL l)
    rw [HR.out, dL_len, hn] at hlen
    go_enter Tryd.func11, Tryd.ntmps11
    go_wp2_with fail
    refine (prefixes_is A n c l w true HP.out hn hr hm1 hs1).mono ?_
    rintro e w2 ⟨rfl, hb2⟩
    go_wp2_with fail
    refine (least_any A n c l w2 hn ((hr.keep hb2 (Nat.le_refl _)).more hb2.size) (by omega)).mono ?_
    rw [HR.out]
    rintro e w3 ⟨⟨A3, c3, r3, rfl, hO3, hd3⟩, hb3⟩
    have HD := Lib.hid hd3
    have hB3 := bt hb2 hb3
    have hsz := HZ.out r3 hd3
    clear hd3 HR
    by_cases h6 : R.length ≤ 6
    · have H6 := Lib.hid h6
      have i6 : (R.length : Int) ≤ 6 := by omega
      generalize hlr : R.length = nR at hO3 hlen h6 i6 ⊢
      have HLR := Lib.hid hlr
      clear hlr
      go_wp2_with fail
      refine (freshTexts_any A3 nR c3 r3 w3 hO3.len hO3.rd (by omega) (fun x hx => Nat.le_trans (hsz x hx) (by omega))).mono ?_
      rintro e w4 ⟨⟨g, rfl, hO4⟩, hb4⟩
      go_wp2_with fail
      go_ret2
      refine ⟨⟨fun _ => ⟨some ⟨g, 0, none⟩, nR, r3, ?_, hO4.rd, HD.out⟩, fun h => absurd H6.out h⟩, bt hB3 hb4⟩
      rw [HLR.out]
      rfl
    · have H6 := Lib.hid h6
      have i6 : (6 : Int) < (R.length : Int) := by omega
      generalize R.length = nR at hO3 hlen h6 i6 ⊢
      go_wp2_with fail
      go_ret2
      exact ⟨⟨fun h => absurd h H6.out, fun _ => rfl⟩, hB3⟩
  | false =>
    simp only [Bool.false_eq_true, if_false]
    have HP := Lib.hid hp
    clear hp
    go_enter Tryd.func11, Tryd.ntmps11
    go_wp2_with fail
    refine (prefixes_is A n c l w false HP.out hn hr hm1 hs1).mono ?_
    rintro e w2 ⟨rfl, hb2⟩
    go_wp2_with fail
    go_ret2
    exact ⟨rfl, hb2⟩
end Go.Proofs.YtccdpbcldpmegaaDoor
