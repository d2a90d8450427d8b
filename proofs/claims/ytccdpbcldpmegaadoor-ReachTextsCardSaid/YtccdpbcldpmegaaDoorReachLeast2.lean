/-
  WHAT IS PROVED: reach.least answers a row of its own of what is left of any list (leastOf). Conditions: those typed in the theorem.
-/
import Derived.Test.YtccdpbcldpmegaaDoorReachLeast
namespace Go.Proofs.YtccdpbcldpmegaaDoor
open Go.RowKit

theorem least_take {S : List (List UInt8)} {k : Nat} {x : List UInt8} (h : S[k]? = some x) : leastL (S.take (k + 1)) = leastStep (leastL (S.take k)) x := by
  obtain ⟨hk, rfl⟩ := List.getElem?_eq_some_iff.1 h
  rw [List.take_succ_eq_append_getElem hk, leastL_snoc]
theorem least_first {S : List (List UInt8)} {k : Nat} {x : List UInt8} {L : List ByteArray} (hL : dL L = leastL (S.take k)) (h : S[k]? = some x) (y : ByteArray) (hy : y.data.toList = x) (h0 : L = []) : dL (L ++ [y]) = leastL (S.take (k + 1)) := by
  rw [least_take h, ← hL, h0]
  simp [leastStep, hy]
theorem least_put {S : List (List UInt8)} {k : Nat} {x : List UInt8} {L : List ByteArray} (hL : dL L = leastL (S.take k)) (h : S[k]? = some x) (y : ByteArray) (hy : y.data.toList = x) {q : ByteArray} (hq : L[L.length - 1]? = some q) (hb : begB q.data.toList x = false) : dL (L ++ [y]) = leastL (S.take (k + 1)) := by
  rw [least_take h, ← hL]
  unfold leastStep
  rw [dL_len, dL_at hq, if_pos (Or.inr hb)]
  simp [hy]
theorem least_drop {S : List (List UInt8)} {k : Nat} {x : List UInt8} {L : List ByteArray} (hL : dL L = leastL (S.take k)) (h : S[k]? = some x) {q : ByteArray} (hq : L[L.length - 1]? = some q) (hb : begB q.data.toList x = true) : dL L = leastL (S.take (k + 1)) := by
  rw [least_take h, ← hL]
  unfold leastStep
  have h0 : dL L ≠ [] := by
    intro e
    have e2 : L = [] := List.map_eq_nil_iff.1 e
    rw [e2] at hq
    cases hq
  rw [dL_len, dL_at hq, if_neg (by simp [h0, hb])]
theorem hasPrefix_is (s p : ByteArray) (w : World) (b : Bool) (hb : begB p.data.toList s.data.toList = b) :
    Calls Tryd.prog 39 #[.string s, .string p] w fun e w' => e = .returned (.bool b) ∧ w = w' := by
  subst hb
  exact (Tryd.strings_HasPrefix s p w).mono fun _ _ h => ⟨h.1, h.2.symm⟩

set_option maxRecDepth 100000 in
set_option maxHeartbeats 2000000 in
theorem least_any (A : Option Addr) (n c : Nat) (l : List ByteArray) (w : World) (hn : l.length = n) (hr : RdS w.heap.size w A l) (hm : n ≤ 1000000) :
    Calls Tryd.prog 23 #[.slice A n c] w fun e w' => AnsO w.heap.size (leastOf (dL l)) e w' ∧ Below w.heap.size w w' := by
  obtain ⟨i0, hi0, hz0, hz1, hz2⟩ := info_parts str_info
  have HN := Lib.hid hn
  go_enter Tryd.func23, Tryd.ntmps23
  go_wp2_with fail
  refine (clone_any A n c l w hn hr (by omega)).mono ?_
  rintro e w1 ⟨⟨A1, c1, rfl, hO1⟩, hb1⟩
  clear hn
  go_wp2_with fail
  refine (sort_any A1 n c1 l w1 hO1 (by omega) hb1.size).mono ?_
  rintro e w2 ⟨rfl, hO2, hb2⟩
  have hB2 := hb1.trans hb2
  clear hO1 hb1 hb2 hr
  have HS : Hid ((sortL (dL l)).length = n) := by
    show _ = _
    rw [sortL_len, dL_len, HN.out]
  have HL : Hid (leastOf (dL l) = leastL (sortL (dL l))) := rfl
  generalize sortL (dL l) = S at HS hO2 HL
  have hrS := hO2.rd
  have hs2 := hB2.size
  clear hO2
  go_wp2_with fail
  go_loopw [4, 14] (fun u i wr => ∃ (k m : Nat) (A2 : Option Addr) (c2 : Nat) (L : List ByteArray), k ≤ n ∧ i = .int .i64 k ∧ u = .slice A2 m c2 ∧ OwnS w2.heap.size wr A2 m c2 L ∧ Hid (dL L = leastL (S.take k)) ∧ m ≤ k ∧ Below w2.heap.size w2 wr) (fun _ i _ => n - (intOf i).toNat)
  case atStart => exact ⟨0, 0, none, 0, [], Nat.zero_le _, rfl, rfl, OwnS.nil _ _, rfl, Nat.le_refl _, Below.refl _ _⟩
  case round =>
    obtain ⟨k, m, A2, c2, L, hk, rfl, rfl, hO, hA, hmk, hB⟩ := hrel
    have hL := hO.len
    by_cases hlt : k < n
    · have hkS : k < S.length := by have := HS.out; omega
      obtain ⟨ad, hA1, _, hc⟩ := (hrS.keep hB (Nat.le_refl _)) k _ (baL_get hkS)
      subst hA1
      have HX : Hid (S[k]? = some S[k]) := List.getElem?_eq_getElem hkS
      have i1 : (0 : Int) ≤ (k : Int) := by omega
      have i2 : (k : Int) < (n : Int) := by omega
      generalize S[k] = xb at hc HX
      have HY : Hid ((⟨xb.toArray⟩ : ByteArray).data.toList = xb) := rfl
      generalize (⟨xb.toArray⟩ : ByteArray) = y at hc HY
      clear hkS
      have hB0 := hB.alloc hB.size (.cells #[.string y] 9)
      by_cases h0 : m = 0
      · subst h0
        have HA2 := Lib.hid (least_first hA.out HX.out y HY.out (List.length_eq_zero_iff.1 hL))
        clear hA hL
        have hO3 := hO.keep (b0 wr (.cells #[.string y] 9))
        go_wp2_with (at_builtin; refine wpList_apS (l := L) (l2 := [y]) (B := wr.heap.size + 1) rfl _ _ rfl Tryd.underlying22 Tryd.underlying22 hi0 hz0 hz1 hz2 rfl rfl hO3 (rdOne wr y _ rfl) rfl 1 rfl (by omega) ?b ?_)
        case b => have := hB.size; simp; omega
        intro A' c' w' k1 k2 k3
        have hB3 := hB0.trans k2
        go_wp2_with fail
        go_roundw
        case rel => exact ⟨k + 1, 1, A', c', L ++ [y], by omega, by go_num, rfl, k1, HA2, by omega, hB3⟩
        case measure => simp [intOf]; omega
      · obtain ⟨q, hq⟩ := get_ex (show m - 1 < L.length by omega)
        obtain ⟨ad2, hA2, _, hc2⟩ := hO.rd _ q hq
        subst hA2
        have HQ : Hid (L[L.length - 1]? = some q) := by
          show _ = _
          rw [hL]
          exact hq
        clear hq
        obtain ⟨m1, rfl⟩ : ∃ m1, m = m1 + 1 := ⟨m - 1, by omega⟩
        rw [Nat.add_sub_cancel] at hc2
        have j0 : ((m1 + 1 : Nat) : Int) - 1 = (m1 : Int) := by omega
        have j1 : (0 : Int) ≤ (m1 : Int) := by omega
        have j2 : (m1 : Int) < ((m1 + 1 : Nat) : Int) := by omega
        have j3 : ¬ ((m1 + 1 : Nat) : Int) = 0 := by omega
        cases hb : begB q.data.toList y.data.toList with
        | true =>
          have HB := Lib.hid hb
          have HA2 := Lib.hid (least_drop hA.out HX.out HQ.out (by rw [← HY.out]; exact hb))
          clear hb hA hL
          go_wp2_with (go_at_call 39; refine (hasPrefix_is _ _ _ true HB.out).mono ?_; rintro e w3 ⟨rfl, rfl⟩)
          go_roundw
          case rel => exact ⟨k + 1, m1 + 1, _, c2, L, by omega, by go_num, rfl, hO, HA2, by omega, hB⟩
          case measure => simp [intOf]; omega
        | false =>
          have HB := Lib.hid hb
          have HA2 := Lib.hid (least_put hA.out HX.out y HY.out HQ.out (by rw [← HY.out]; exact hb))
          clear hb hA hL
          have hO3 := hO.keep (b0 wr (.cells #[.string y] 9))
          go_wp2_with first
            | (go_at_call 39; refine (hasPrefix_is _ _ _ false HB.out).mono ?_; rintro e w3 ⟨rfl, rfl⟩)
            | (at_builtin; refine wpList_apS (l := L) (l2 := [y]) (B := wr.heap.size + 1) rfl _ _ rfl Tryd.underlying22 Tryd.underlying22 hi0 hz0 hz1 hz2 rfl rfl hO3 (rdOne wr y _ rfl) rfl (m1 + 1 + 1) rfl (by omega) ?b ?_)
          case b => have := hB.size; simp; omega
          intro A' c' w' k1 k2 k3
          have hB3 := hB0.trans k2
          go_wp2_with fail
          go_roundw
          case rel => exact ⟨k + 1, m1 + 1 + 1, A', c', L ++ [y], by omega, by go_num, rfl, k1, HA2, by omega, hB3⟩
          case measure => simp [intOf]; omega
    · have hq : ¬ (k : Int) < (n : Int) := by omega
      have HA2 : Hid (dL L = leastOf (dL l)) := by
        show _ = _
        rw [HL.out, hA.out, List.take_of_length_le (by have := HS.out; omega)]
      have HM : Hid (m = (leastOf (dL l)).length) := by
        show _ = _
        rw [← HA2.out, dL_len, hL]
      clear hA hL HL
      go_wp2_with fail
      go_ret
      refine ⟨⟨A2, c2, L, by rw [← HM.out]; rfl, by rw [← HM.out]; exact hO.less hs2, HA2.out⟩, hB2.trans (hB.mono hs2)⟩
end Go.Proofs.YtccdpbcldpmegaaDoor
