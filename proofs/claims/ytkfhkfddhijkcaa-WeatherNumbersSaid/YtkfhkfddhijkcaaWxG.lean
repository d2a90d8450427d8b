/-
  WHAT IS PROVED: the law WeatherNumbers returns true. Conditions: those typed in each theorem.
-/
import Derived.Test.YtkfhkfddhijkcaaWxF
namespace Go.Proofs.Ytkfhkfddhijkcaa
open Go.RowKit

set_option maxRecDepth 100000 in
set_option maxHeartbeats 1000000 in
theorem weatherNumbers_all (s : Nat) (A : Option Addr) (n c : Nat) (l : List Int) (A2 : Option Addr) (n2 c2 : Nat) (l2 : List Int) (w : World) (hs : s < 18446744073709551616) (hn0 : l.length = n) (hr : RdI w.heap.size w A l) (_ : n ≤ maxLen) (_ : n ≤ c) (hf : ∀ x, x ∈ l → -9223372036854775808 ≤ x ∧ x ≤ 9223372036854775807) (hn02 : l2.length = n2) (hr2 : RdI w.heap.size w A2 l2) (_ : n2 ≤ maxLen) (_ : n2 ≤ c2) (_ : ∀ x, x ∈ l2 → -9223372036854775808 ≤ x ∧ x ≤ 9223372036854775807) :
    Calls Try.prog 5 #[.int .u64 (s : Int), .slice A n c, .slice A2 n2 c2] w fun e w' => e = .returned (.bool true) ∧ Below w.heap.size w w' := by
  have HN := Lib.hid hn0
  have HN2 := Lib.hid hn02
  have HF := Lib.hid hf
  have HS := Lib.hid hs
  clear hn0 hn02 hf hs
  go_enter Try.func5, Try.ntmps5
  go_wp2_with fail
  refine (skyNew_any s w).mono ?_
  rintro e w2 ⟨p, rfl, hp, hX, hB1⟩
  have hpl := Blk.lt hX
  go_wp2_with fail
  refine (awake29_any w2).mono ?_
  rintro e w3 ⟨rfl, hB2⟩
  replace hX : SkyB w3 p s := Blk.keep hX hB2
  replace hB1 := hB1.trans (hB2.mono hB1.size)
  clear hB2
  by_cases hq : n ≤ 60 ∧ n2 ≤ 60
  rotate_left
  · have hgo : ∀ W : World, Below w.heap.size w W → Calls Try.prog 27 #[] W fun e w' => e = .returned (.bool true) ∧ Below w.heap.size w w' := fun W hW => (awake29_any W).mono fun _ _ ⟨he, hb⟩ => ⟨he, hW.trans (hb.mono hW.size)⟩
    by_cases hn : 60 < n
    · have hn2 : (60 : Int) < (n : Int) := by omega
      clear hq
      go_wp2_with fail
      refine (hgo w3 hB1).mono ?_
      rintro e w4 ⟨rfl, hB4⟩
      clear hX hB1
      go_wp2_with fail
      go_ret
      exact ⟨rfl, hB4⟩
    · have hn2 : ¬ (60 : Int) < (n : Int) := by omega
      have hn3 : (60 : Int) < (n2 : Int) := by omega
      clear hq
      go_wp2_with fail
      refine (hgo w3 hB1).mono ?_
      rintro e w4 ⟨rfl, hB4⟩
      clear hX hB1
      go_wp2_with fail
      go_ret
      exact ⟨rfl, hB4⟩
  have hn2 : ¬ (60 : Int) < (n : Int) := by omega
  have hn3 : ¬ (60 : Int) < (n2 : Int) := by omega
  go_wp2_with fail
  go_loopw [9, 40] (fun _ i wr => ∃ k : Nat, k ≤ n2 ∧ i = .int .i64 k ∧ wr = w3 ∧ Hid (WOk (l2.take k))) (fun _ i _ => n2 - (intOf i).toNat)
  case atStart => exact ⟨0, Nat.zero_le _, rfl, rfl, fun x hx => by simp at hx⟩
  case round =>
    obtain ⟨k, hkn, rfl, rfl, hW⟩ := hrel
    by_cases hlt : k < n2
    · obtain ⟨x, hx⟩ : ∃ x, l2[k]? = some x := ⟨_, List.getElem?_eq_getElem (show k < l2.length by have := HN2.out; omega)⟩
      obtain ⟨ad, rfl, hadb, hc⟩ := (hr2.keep hB1 (Nat.le_refl _)) k x hx
      have i2 : (k : Int) < (n2 : Int) := by omega
      have i1 : (0 : Int) ≤ (k : Int) := by omega
      have HX := Lib.hid hx
      clear hx
      by_cases h0 : x < 0
      · clear hW HX
        go_wp2_with fail
        go_ret
        exact ⟨rfl, hB1⟩
      by_cases h9 : 1000 < x
      · clear hW HX
        go_wp2_with fail
        go_ret
        exact ⟨rfl, hB1⟩
      have HW2 : Hid (WOk (l2.take (k + 1))) := fun y hy => by
        rw [List.take_add_one, HX.out] at hy
        rcases List.mem_append.1 hy with h | h
        · exact hW.out y h
        · have e : y = x := by simpa using h
          rw [e]
          omega
      clear hW HX
      go_wp2_with fail
      refine ⟨?_, ?_⟩
      · first
        | exact ⟨k + 1, by omega, by go_num, by first | rfl | trivial, HW2⟩
        | repeat apply Exists.intro
          refine ⟨?_, rfl⟩
          exact ⟨k + 1, by omega, by go_num, by first | rfl | trivial, HW2⟩
      · simp [intOf]; omega
    · have e : k = n2 := by omega
      subst e
      rw [List.take_of_length_le (by have := HN2.out; omega)] at hW
      have i2 : ¬ (k : Int) < (k : Int) := by omega
      go_wp2_with fail
      go_loopw [10, 12, 13, 14, 15, 16, 17, 18, 54] (fun u10 _ _ _ _ _ _ _ i wr2 => ∃ (j t : Nat), j ≤ n ∧ i = .int .i64 j ∧ u10 = .int .u64 (t : Int) ∧ Hid (t < 18446744073709551616) ∧ SkyB wr2 p t ∧ Below w.heap.size w wr2) (fun _ _ _ _ _ _ _ _ i _ => n - (intOf i).toNat)
      case atStart => exact ⟨0, s, by omega, rfl, rfl, HS.out, hX, hB1⟩
      case round =>
        clear hX hB1
        obtain ⟨j, t, hj, rfl, rfl, ht, hX, hB1⟩ := hrel
        by_cases hjl : j < n
        · have j2 : (j : Int) < (n : Int) := by omega
          have j1 : (0 : Int) ≤ (j : Int) := by omega
          obtain ⟨x, hx⟩ : ∃ x, l[j]? = some x := ⟨_, List.getElem?_eq_getElem (show j < l.length by have := HN.out; omega)⟩
          obtain ⟨ad, rfl, hadb, hc⟩ := (hr.keep hB1 (Nat.le_refl _)) j x hx
          have hxf := HF.out x (List.mem_of_getElem? hx)
          have hpl := Blk.lt hX
          have c1 := refNext_any t wr ht.out
          have cN := skyNext_any t p wr ht.out hX
          have ht1 := nxS_lt t
          generalize nxS t = t1 at *
          generalize nxV t = v1 at *
          have c3 := fun W => refBelow_any t1 x W ht1 hxf.2
          have c4 := fun W (h : SkyB W p t1) => skyBelow_any t1 p x W ht1 hxf.2 h
          have ht2 := blS_lt ht1 x
          generalize blS t1 x = t2 at *
          generalize blV t1 x = v2 at *
          have c5 := fun W (h : RdI w.heap.size W A2 l2) (hz : w.heap.size ≤ W.heap.size) => refBy_any t2 A2 k c2 l2 W ht2 HN2.out h hz hq.2 hW.out
          have c6 := fun W (h : RdI w.heap.size W A2 l2) (hX : SkyB W p t2) => skyBy_any t2 p A2 k c2 l2 W ht2 hX HN2.out h hp hq.2 hW.out
          have ht3 := byS_lt ht2 l2
          generalize byS t2 l2 = t3 at *
          generalize byV t2 l2 = v3 at *
          replace ht3 := Lib.hid ht3
          clear ht1 ht2 hx hxf hq
          go_wp2_with fail
          refine c1.mono ?_
          rintro e w4 ⟨rfl, rfl⟩
          go_wp2_with fail
          refine cN.mono ?_
          rintro e w5 ⟨rfl, hX5, ho5⟩
          have hB5 : Below w.heap.size w w5 := hB1.trans (ho5.below hp)
          clear c1 cN hX hB1 ho5 hc
          go_wp2_with fail
          refine (c3 w5).mono ?_
          rintro e w6 ⟨rfl, hB6⟩
          have hX6 : SkyB w6 p t1 := Blk.keep hX5 hB6
          replace hB6 := hB5.trans (hB6.mono hB5.size)
          clear c3 hX5 hB5
          go_wp2_with fail
          refine (c4 w6 hX6).mono ?_
          rintro e w7 ⟨rfl, hX7, ho7⟩
          have hB7 : Below w.heap.size w w7 := hB6.trans (ho7.below hp)
          clear c4 hX6 hB6 ho7
          go_wp2_with fail
          refine (c5 w7 (hr2.keep hB7 (Nat.le_refl _)) hB7.size).mono ?_
          rintro e w8 ⟨rfl, hB8⟩
          have hX8 : SkyB w8 p t2 := Blk.keep hX7 hB8
          replace hB8 := hB7.trans (hB8.mono hB7.size)
          clear c5 hX7 hB7
          go_wp2_with fail
          refine (c6 w8 (hr2.keep hB8 (Nat.le_refl _)) hX8).mono ?_
          rintro e w9 ⟨rfl, hX9, he9⟩
          have hB9 : Below w.heap.size w w9 := hB8.trans (he9.below hp hB8.size)
          clear c6 hX8 hB8 he9
          go_wp2_with fail
          refine ⟨?_, ?_⟩
          · first
            | exact ⟨j + 1, t3, by omega, by go_num, by first | rfl | trivial, ht3, hX9, hB9⟩
            | repeat apply Exists.intro
              refine ⟨?_, rfl⟩
              exact ⟨j + 1, t3, by omega, by go_num, by first | rfl | trivial, ht3, hX9, hB9⟩
          · simp [intOf]; omega
        · have j2 : ¬ (j : Int) < (n : Int) := by omega
          go_wp2_with fail
          go_ret
          exact ⟨rfl, hB1⟩
end Go.Proofs.Ytkfhkfddhijkcaa
