/-
  WHAT IS PROVED: reach.within answers those that the other one has; reach.Both makes the reach of what both have (BothC). Conditions: those typed in each theorem.
-/
import Derived.Test.YtccdpbcldpmegaaDoorReachGood
import Derived.Test.YtccdpbcldpmegaaDoorConcatL
namespace Go.Proofs.YtccdpbcldpmegaaDoor
open Go.RowKit

theorem within_step {l : List ByteArray} {k : Nat} {x : ByteArray} (h : l[k]? = some x) (p : List UInt8 → Bool) {L : List ByteArray} (hL : dL L = ((dL l).take k).filter p) (b : Bool) (hb : p x.data.toList = b) : ((dL l).take (k + 1)).filter p = if b = true then dL (L ++ [x]) else dL L := by
  rw [take_succ_get h, List.filter_append, ← hL]
  cases b with
  | true => simp [hb]
  | false => simp [hb]

set_option maxRecDepth 100000 in
set_option maxHeartbeats 2000000 in
theorem within_any (A A2 : Option Addr) (n c m d : Nat) (a b : List ByteArray) (w : World) (hn : a.length = n) (hr : RdS w.heap.size w A a) (hm : n ≤ 1000) (hb : b.length = m) (hr2 : RdS w.heap.size w A2 b) (hm2 : m ≤ 1000) :
    Calls Tryd.prog 28 #[.slice A n c, .slice A2 m d] w fun e w' => AnsO w.heap.size ((dL a).filter fun x => hasB (dL b) x) e w' ∧ Below w.heap.size w w' := by
  obtain ⟨i0, hi0, hz0, hz1, hz2⟩ := info_parts str_info
  have HN := Lib.hid hn
  have HB := Lib.hid hb
  clear hn hb
  go_enter Tryd.func28, Tryd.ntmps28
  go_wp2_with fail
  go_loopw [5, 10] (fun u i wr => ∃ (k q : Nat) (A3 : Option Addr) (c3 : Nat) (L : List ByteArray), k ≤ n ∧ i = .int .i64 k ∧ u = .slice A3 q c3 ∧ OwnS w.heap.size wr A3 q c3 L ∧ Hid (dL L = ((dL a).take k).filter fun x => hasB (dL b) x) ∧ q ≤ k ∧ Below w.heap.size w wr) (fun _ i _ => n - (intOf i).toNat)
  case atStart => exact ⟨0, 0, none, 0, [], Nat.zero_le _, rfl, rfl, OwnS.nil _ _, rfl, Nat.le_refl _, Below.refl _ _⟩
  case round =>
    obtain ⟨k, q, A3, c3, L, hk, rfl, rfl, hO, hA, hqk, hB⟩ := hrel
    have hL := hO.len
    by_cases hlt : k < n
    · obtain ⟨x, hx⟩ := get_ex (show k < a.length by have := HN.out; omega)
      obtain ⟨ad, rfl, _, hc⟩ := (hr.keep hB (Nat.le_refl _)) k x hx
      have i1 : (0 : Int) ≤ (k : Int) := by omega
      have i2 : (k : Int) < (n : Int) := by omega
      have hr2' := (hr2.keep hB (Nat.le_refl _)).more hB.size
      cases hh : hasB (dL b) x.data.toList with
      | true =>
        have HH := Lib.hid hh
        have HA2 : Hid (dL (L ++ [x]) = ((dL a).take (k + 1)).filter fun x => hasB (dL b) x) := by
          show _ = _
          rw [within_step hx _ hA.out true hh, if_pos rfl]
        clear hh hA hx
        go_wp2_with first
          | (go_at_call 26; refine (has_is A2 m d b x wr true HH.out HB.out hr2' (by unfold maxLen; omega)).mono ?_; rintro e w2 ⟨rfl, hb2⟩; have hB2 := bt hB hb2; have hO3 := (hO.keep hb2).keep (b0 w2 (.cells #[.string x] 9)); have hB0 := hB2.alloc hB2.size (.cells #[.string x] 9))
          | (at_builtin; refine wpList_apS (l := L) (l2 := [x]) (B := w2.heap.size + 1) rfl _ _ rfl Tryd.underlying22 Tryd.underlying22 hi0 hz0 hz1 hz2 rfl rfl hO3 (rdOne w2 x _ rfl) rfl (q + 1) rfl (by omega) ?b ?_)
        case b => have := hB2.size; simp; omega
        intro A' c' w' k1 k2 k3
        have hB3 := hB0.trans k2
        go_wp2_with fail
        go_roundw
        case rel => exact ⟨k + 1, q + 1, A', c', L ++ [x], by omega, by go_num, rfl, k1, HA2, by omega, hB3⟩
        case measure => simp [intOf]; omega
      | false =>
        have HH := Lib.hid hh
        have HA2 : Hid (dL L = ((dL a).take (k + 1)).filter fun x => hasB (dL b) x) := by
          show _ = _
          rw [within_step hx _ hA.out false hh, if_neg Bool.false_ne_true]
        clear hh hA hx
        go_wp2_with (go_at_call 26; refine (has_is A2 m d b x wr false HH.out HB.out hr2' (by unfold maxLen; omega)).mono ?_; rintro e w2 ⟨rfl, hb2⟩)
        go_roundw
        case rel => exact ⟨k + 1, q, A3, c3, L, by omega, by go_num, rfl, hO.keep hb2, HA2, by omega, bt hB hb2⟩
        case measure => simp [intOf]; omega
    · have hq : ¬ (k : Int) < (n : Int) := by omega
      have HA2 : Hid (dL L = (dL a).filter fun x => hasB (dL b) x) := by
        show _ = _
        rw [hA.out, List.take_of_length_le (by rw [dL_len, HN.out]; omega)]
      have HM : Hid (q = ((dL a).filter fun x => hasB (dL b) x).length) := by
        show _ = _
        rw [← HA2.out, dL_len, hL]
      clear hA hL
      go_wp2_with fail
      go_ret
      exact ⟨⟨A3, c3, L, by rw [← HM.out]; rfl, by rw [← HM.out]; exact hO, HA2.out⟩, hB⟩

theorem sz_app {a b : List ByteArray} {N : Nat} (h : Sz N a) (k : Sz N b) : Sz N (a ++ b) := by
  intro x hx
  rcases List.mem_append.1 hx with hx | hx
  · exact h x hx
  · exact k x hx
theorem sz_filter {l r : List ByteArray} {p : List UInt8 → Bool} {N : Nat} (h : dL r = (dL l).filter p) (hs : Sz N l) : Sz N r := by
  intro x hx
  have h1 : x.data.toList ∈ (dL l).filter p := by rw [← h]; exact List.mem_map_of_mem hx
  obtain ⟨y, hy, e⟩ := List.mem_map.1 (List.mem_filter.1 h1).1
  have e1 : x.data.toList.length = x.size := Array.length_toList
  have e2 : y.data.toList.length = y.size := Array.length_toList
  rw [← e1, ← e, e2]
  exact hs y hy
theorem both_made {a b r s R : List (List UInt8)} (h1 : r = a.filter fun x => hasB b x) (h2 : s = b.filter fun x => hasB a x) (hR : IsMade (BothS a b) R) : leastOf (r ++ s) = R := by
  refine made_uniq (least_made (r ++ s)) hR fun x => ?_
  rw [List.mem_append, h1, h2, List.mem_filter, List.mem_filter]
  unfold BothS
  exact Or.comm

set_option maxRecDepth 100000 in
set_option maxHeartbeats 2000000 in
theorem bothC : BothC := by
  intro A A2 n c m d a b w R _ ha hr hb hr2 g1 g2 hR
  have n6 : n ≤ 6 := by rw [← ha]; exact goodR_six g1
  have m6 : m ≤ 6 := by rw [← hb]; exact goodR_six g2
  have HA := Lib.hid ha
  have HB := Lib.hid hb
  have HR := Lib.hid hR
  have S1 := Lib.hid (goodR_sizes g1)
  have S2 := Lib.hid (goodR_sizes g2)
  clear ha hb hR g1 g2
  go_enter Tryd.func13, Tryd.ntmps13
  go_wp2_with fail
  refine (within_any A A2 n c m d a b w HA.out hr (by omega) HB.out hr2 (by omega)).mono ?_
  rintro e w2 ⟨⟨A3, c3, r3, rfl, hO3, hd3⟩, hb2⟩
  have HD3 := Lib.hid hd3
  have hl3 := hO3.len
  have hf3 : ((dL a).filter fun x => hasB (dL b) x).length ≤ 6 := Nat.le_trans (List.length_filter_le _ _) (by rw [dL_len, HA.out]; exact n6)
  generalize ((dL a).filter fun x => hasB (dL b) x).length = n3 at hO3 hl3 hf3 ⊢
  clear hd3
  go_wp2_with fail
  refine (within_any A2 A m d n c b a w2 HB.out ((hr2.keep hb2 (Nat.le_refl _)).more hb2.size) (by omega) HA.out ((hr.keep hb2 (Nat.le_refl _)).more hb2.size) (by omega)).mono ?_
  rintro e w3 ⟨⟨A4, c4, r4, rfl, hO4, hd4⟩, hb3⟩
  have HD4 := Lib.hid hd4
  have hl4 := hO4.len
  have hf4 : ((dL b).filter fun x => hasB (dL a) x).length ≤ 6 := Nat.le_trans (List.length_filter_le _ _) (by rw [dL_len, HB.out]; exact m6)
  generalize ((dL b).filter fun x => hasB (dL a) x).length = n4 at hO4 hl4 hf4 ⊢
  clear hd4
  have hB3 := bt hb2 hb3
  have hrd3 := rd_own hO3 hb3
  have hrd4 := rd_own hO4 (Below.refl _ w3)
  have HL3 := Lib.hid hl3
  have HL4 := Lib.hid hl4
  clear hl3 hl4
  go_wp2_with fail
  have q0 : (w3.alloc (.cells #[.slice A3 n3 c3, .slice A4 n4 c4] 22)).cell? ⟨w3.heap.size, 0, none⟩ = some (.slice A3 n3 c3) := by go_simp
  have q1 : (w3.alloc (.cells #[.slice A3 n3 c3, .slice A4 n4 c4] 22)).cell? ⟨w3.heap.size, 1, none⟩ = some (.slice A4 n4 c4) := by go_simp
  have hba := b0 w3 (.cells #[.slice A3 n3 c3, .slice A4 n4 c4] 22)
  refine (concatL_any w3.heap.size A3 A4 n3 c3 n4 c4 r3 r4 _ (by simp) q0 q1 HL3.out ((hrd3.keep hba (Nat.le_refl _)).more hba.size) HL4.out ((hrd4.keep hba (Nat.le_refl _)).more hba.size) (by omega) (by omega)).mono ?_
  rintro e w5 ⟨⟨A5, c5, rfl, hO5⟩, hb5⟩
  have hB5 := bt (bt hB3 hba) hb5
  clear q0 q1 hba hb5 hrd3 hrd4
  go_wp2_with fail
  refine (least_any A5 (n3 + n4) c5 (r3 ++ r4) w5 hO5.len hO5.rd (by omega)).mono ?_
  rintro e w6 ⟨⟨A6, c6, r6, rfl, hO6, hd6⟩, hb6⟩
  have HE : Hid (leastOf (dL (r3 ++ r4)) = R) := by
    show _ = _
    rw [show dL (r3 ++ r4) = dL r3 ++ dL r4 from List.map_append]
    exact both_made HD3.out HD4.out HR.out
  have hsz := leastOf_sz hd6 (sz_app (sz_filter HD3.out S1.out) (sz_filter HD4.out S2.out))
  have hlen := leastOf_len (dL (r3 ++ r4))
  rw [dL_len, hO5.len, HE.out] at hlen
  rw [HE.out] at hd6 hO6 ⊢
  have HD6 := Lib.hid hd6
  have hB6 := bt hB5 hb6
  clear hd6 hb6 HE
  generalize hlr : R.length = nR at hO6 hlen ⊢
  have HLR := Lib.hid hlr
  clear hlr
  go_wp2_with fail
  refine (freshTexts_any A6 nR c6 r6 w6 hO6.len hO6.rd (by omega) (fun x hx => Nat.le_trans (hsz x hx) (by omega))).mono ?_
  rintro e w7 ⟨⟨g, rfl, hO7⟩, hb7⟩
  go_wp2_with fail
  go_ret
  refine ⟨⟨some ⟨g, 0, none⟩, nR, r6, ?_, hO7.rd, HD6.out⟩, bt hB6 hb7⟩
  rw [HLR.out]
  rfl
end Go.Proofs.YtccdpbcldpmegaaDoor
