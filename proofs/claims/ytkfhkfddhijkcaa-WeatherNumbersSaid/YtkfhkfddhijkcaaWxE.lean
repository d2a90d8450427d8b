/-
  WHAT IS PROVED: the law WeatherWithin returns true. Conditions: those typed in each theorem.
-/
import Derived.Test.YtkfhkfddhijkcaaWxD
namespace Go.Proofs.Ytkfhkfddhijkcaa
open Go.RowKit

theorem awake29_v : nxV 0 = 16294208416658607535 := by decide +kernel
set_option maxRecDepth 100000 in
set_option maxHeartbeats 1000000 in
theorem awake29_any (w : World) : Calls Try.prog 27 #[] w fun e w' => e = .returned (.bool true) ∧ Below w.heap.size w w' := by
  go_enter Try.func27, Try.ntmps27
  go_wp2_with fail
  refine (skyNew_any 0 w).mono ?_
  rintro e w2 ⟨p, rfl, hp, hX, hB⟩
  go_wp2_with fail
  refine (skyNext_any 0 p w2 (by decide) hX).mono ?_
  rintro e w3 ⟨rfl, hX3, ho⟩
  rw [awake29_v]
  have hB3 : Below w.heap.size w w3 := hB.trans (ho.below hp)
  clear hX3 hX hB ho
  go_wp2_with fail
  go_ret
  exact ⟨rfl, hB3⟩
/-- A kept sky beside one that was asked. -/
theorem SkyB.exc {W W' : World} {p q s : Nat} (h : SkyB W p s) (he : Exc q W W') (hpq : p ≠ q) : SkyB W' p s := Exc.blk he h hpq
theorem within_end {s : Nat} {l : List Int} (h : WOk l) : (sumW l < 1 → byV s l = -1) ∧ (1 ≤ sumW l → ∃ (j : Nat) (x : Int), byV s l = (j : Int) ∧ l[j]? = some x ∧ 0 < x) := ⟨byV_no s, byV_in s h⟩
set_option maxRecDepth 100000 in
set_option maxHeartbeats 1000000 in
theorem lawWithin_all (s : Nat) (m : Int) (A : Option Addr) (n c : Nat) (l : List Int) (w : World) (hs : s < 18446744073709551616) (hm : -9223372036854775808 ≤ m ∧ m ≤ 9223372036854775807) (hn0 : l.length = n) (hr : RdI w.heap.size w A l) (hmx : n ≤ maxLen) :
    Calls Try.prog 6 #[.int .u64 (s : Int), .int .i64 m, .slice A n c] w fun e w' => e = .returned (.bool true) ∧ Below w.heap.size w w' := by
  have HN := Lib.hid hn0
  clear hn0
  go_enter Try.func6, Try.ntmps6
  go_wp2_with fail
  refine (skyNew_any s w).mono ?_
  rintro e w1 ⟨p, rfl, hp, hX, hB⟩
  go_wp2_with fail
  refine (skyNew_any s w1).mono ?_
  rintro e w2 ⟨q, rfl, hq, hY, hB1⟩
  have hpl := Blk.lt hX
  replace hX : SkyB w2 p s := Blk.keep hX hB1
  have hpq : p < q := by omega
  replace hB1 : Below w.heap.size w w2 := hB.trans (hB1.mono hB.size)
  clear hB hpl
  replace hq : w.heap.size ≤ q := by omega
  have hql := Blk.lt hY
  go_wp2_with fail
  refine (awake29_any w2).mono ?_
  rintro e w3 ⟨rfl, hB2⟩
  replace hX : SkyB w3 p s := Blk.keep hX hB2
  replace hY : SkyB w3 q s := Blk.keep hY hB2
  replace hB1 := hB1.trans (hB2.mono hB1.size)
  clear hB2
  by_cases hn : 60 < n
  · have hn2 : (60 : Int) < (n : Int) := by omega
    go_wp2_with fail
    refine (awake29_any w3).mono ?_
    rintro e w4 ⟨rfl, hB4⟩
    replace hB1 := hB1.trans (hB4.mono hB1.size)
    clear hX hY hB4
    go_wp2_with fail
    go_ret
    exact ⟨rfl, hB1⟩
  have hn2 : ¬ (60 : Int) < (n : Int) := by omega
  go_wp2_with fail
  go_loopw [9, 11, 36] (fun u9 _ i wr => ∃ k : Nat, k ≤ n ∧ i = .int .i64 k ∧ u9 = .int .i64 (sumW (l.take k)) ∧ wr = w3 ∧ Hid (WOk (l.take k))) (fun _ _ i _ => n - (intOf i).toNat)
  case atStart => exact ⟨0, Nat.zero_le _, rfl, rfl, rfl, fun x hx => by simp at hx⟩
  case round =>
    obtain ⟨k, hkn, rfl, rfl, rfl, hW⟩ := hrel
    by_cases hlt : k < n
    · obtain ⟨x, hx⟩ : ∃ x, l[k]? = some x := ⟨_, List.getElem?_eq_getElem (show k < l.length by have := HN.out; omega)⟩
      obtain ⟨ad, rfl, hadb, hc⟩ := (hr.keep hB1 (Nat.le_refl _)) k x hx
      have i2 : (k : Int) < (n : Int) := by omega
      have i1 : (0 : Int) ≤ (k : Int) := by omega
      have HX := Lib.hid hx
      clear hx
      by_cases h0 : x < 0
      · clear hW HX
        go_wp2_with fail
        go_ret
        exact ⟨rfl, hB1⟩
      by_cases h9 : 1000 < x
      · clear hW HX
        go_wp2_with fail
        go_ret
        exact ⟨rfl, hB1⟩
      have hs0 := sumW_le hW.out
      rw [List.length_take] at hs0
      have hs : sumW (l.take (k + 1)) = sumW (l.take k) + x := by
        rw [List.take_add_one, HX.out]
        exact sumW_snoc _ _
      have HS := Lib.hid hs
      have HW2 : Hid (WOk (l.take (k + 1))) := fun y hy => by
        rw [List.take_add_one, HX.out] at hy
        rcases List.mem_append.1 hy with h | h
        · exact hW.out y h
        · have e : y = x := by simpa using h
          rw [e]
          omega
      have wr2 : IntKind.i64.wrap (sumW (l.take k) + x) = sumW (l.take k) + x := wrapS (by omega)
      clear hs hs0 hW HX
      generalize sumW (l.take k) = y at *
      go_wp2_with fail
      go_roundw
      case rel => exact ⟨k + 1, by omega, by go_num, by rw [HS.out], by first | rfl | trivial, HW2⟩
      case measure => simp [intOf]; omega
    · have e : k = n := by omega
      subst e
      rw [List.take_of_length_le (by have := HN.out; omega)] at hW ⊢
      have i2 : ¬ (k : Int) < (k : Int) := by omega
      have hWE := Lib.hid (fun t => within_end (s := t) hW.out)
      have hs0 := sumW_le hW.out
      rw [HN.out] at hs0
      have HS := Lib.hid hs
      generalize hsum : sumW l = y at *
      go_wp2_with fail
      go_loopw [12, 13, 50] (fun _ _ i wr2 => ∃ (j t : Nat), j ≤ 20 ∧ i = .int .i64 j ∧ Hid (t < 18446744073709551616) ∧ SkyB wr2 p t ∧ SkyB wr2 q t ∧ Below w.heap.size w wr2) (fun _ _ i _ => 20 - (intOf i).toNat)
      case atStart => exact ⟨0, s, by omega, rfl, HS.out, hX, hY, hB1⟩
      case round =>
        clear hX hY hB1
        obtain ⟨j, t, hj, rfl, ht, hX, hY, hB1⟩ := hrel
        have HL := Lib.hid hr
        by_cases hjl : j < 20
        · have j2 : (j : Int) < 20 := by omega
          have hrr := hr.keep hB1 (Nat.le_refl _)
          have hpl := Blk.lt hX
          have hql2 := Blk.lt hY
          have c1 := skyBelow_any t p m wr ht.out hm.2 hX
          have c2 := fun W (h : SkyB W q t) => skyBelow_any t q m W ht.out hm.2 h
          have h2t := blS_lt ht.out m
          have hv1 : m < 1 → blV t m = 0 := blV_0 t
          have hv2 : 1 ≤ m → 0 ≤ blV t m ∧ blV t m < m := blV_in t
          generalize blS t m = t2 at *
          generalize blV t m = v at *
          go_wp2_with fail
          refine c1.mono ?_
          rintro e w5 ⟨rfl, hX5, ho5⟩
          have hY5 : SkyB w5 q t := Blk.only hY ho5 (by omega)
          have hB5 : Below w.heap.size w w5 := hB1.trans (ho5.below hp)
          have hr5 := hr.keep hB5 (Nat.le_refl _)
          clear c1 hX hY hB1 hrr ho5
          have c3 := skyBy_any t2 p A k c l w5 h2t hX5 HN.out hr5 hp (by omega) hW.out
          have c4 := fun W (h : SkyB W q t2) (hr6 : RdI w.heap.size W A l) => skyBy_any t2 q A k c l W h2t h HN.out hr6 hq (by omega) hW.out
          have h3t := byS_lt h2t l
          have hWE2 := hWE.out t2
          generalize byS t2 l = t3 at *
          generalize byV t2 l = x at *
          go_wp2_with fail
          refine c3.mono ?_
          rintro e w6 ⟨rfl, hX6, he6⟩
          have hY6 : SkyB w6 q t := hY5.exc he6 (by omega)
          have hB6 : Below w.heap.size w w6 := hB5.trans (he6.below hp hB5.size)
          clear c3 hX5 hY5 hB5 hr5 he6
          go_wp2_with fail
          refine (c2 w6 hY6).mono ?_
          rintro e w7 ⟨rfl, hY7, ho7⟩
          have hX7 : SkyB w7 p t3 := Blk.only hX6 ho7 (by omega)
          have hB7 : Below w.heap.size w w7 := hB6.trans (ho7.below hq)
          have hr7 := hr.keep hB7 (Nat.le_refl _)
          clear c2 hX6 hY6 hB6 ho7
          go_wp2_with fail
          refine (c4 w7 hY7 hr7).mono ?_
          rintro e w8 ⟨rfl, hY8, he8⟩
          have hX8 : SkyB w8 p t3 := hX7.exc he8 (by omega)
          have hB8 : Below w.heap.size w w8 := hB7.trans (he8.below hq hB7.size)
          have hr8 := hr.keep hB8 (Nat.le_refl _)
          have H3 := Lib.hid h3t
          clear c4 hX7 hY7 hB7 hr7 he8 h3t h2t hWE
          by_cases hm1 : m < 1
          · have hv := hv1 hm1
            have hm3 : ¬ 1 ≤ m := by omega
            subst hv
            clear hv1 hv2
            by_cases hy1 : y < 1
            · have hx := hWE2.1 hy1
              subst hx
              have hy0 : y = 0 := by omega
              subst hy0
              clear hWE2
              go_wp2_with fail
              refine ⟨?_, ?_⟩
              · first
                | exact ⟨j + 1, t3, by omega, by go_num, H3, hX8, hY8, hB8⟩
                | repeat apply Exists.intro
                  refine ⟨?_, rfl⟩
                  exact ⟨j + 1, t3, by omega, by go_num, H3, hX8, hY8, hB8⟩
              · simp [intOf]; omega
            · obtain ⟨i, z, rfl, hi, hz⟩ := hWE2.2 (by omega)
              obtain ⟨ad, rfl, hadb, hc⟩ := hr8 i z hi
              have hil : i < k := by have := (List.getElem?_eq_some_iff.1 hi).1; have := HN.out; omega
              have hy2 : ¬ y = 0 := by omega
              have hy3 : 0 < y := by omega
              have hi1 : ¬ (i : Int) < 0 := by omega
              have hi0 : (0 : Int) ≤ (i : Int) := by omega
              have hi2 : (i : Int) < (k : Int) := by omega
              have hi3 : ¬ (k : Int) ≤ (i : Int) := by omega
              have hz2 : ¬ z = 0 := by omega
              have hz3 : (z == 0) = false := by simpa using hz2
              have hi4 : ¬ k ≤ i := by omega
              clear hWE2 hi
              go_wp2_with fail
              refine ⟨?_, ?_⟩
              · first
                | exact ⟨j + 1, t3, by omega, by go_num, H3, hX8, hY8, hB8⟩
                | repeat apply Exists.intro
                  refine ⟨?_, rfl⟩
                  exact ⟨j + 1, t3, by omega, by go_num, H3, hX8, hY8, hB8⟩
              · simp [intOf]; omega
          · obtain ⟨hv3, hv4⟩ := hv2 (by omega)
            have hm3 : 1 ≤ m := by omega
            have hv5 : ¬ v < 0 := by omega
            have hv6 : ¬ m ≤ v := by omega
            clear hv1 hv2
            by_cases hy1 : y < 1
            · have hx := hWE2.1 hy1
              subst hx
              have hy0 : y = 0 := by omega
              subst hy0
              clear hWE2
              go_wp2_with fail
              refine ⟨?_, ?_⟩
              · first
                | exact ⟨j + 1, t3, by omega, by go_num, H3, hX8, hY8, hB8⟩
                | repeat apply Exists.intro
                  refine ⟨?_, rfl⟩
                  exact ⟨j + 1, t3, by omega, by go_num, H3, hX8, hY8, hB8⟩
              · simp [intOf]; omega
            · obtain ⟨i, z, rfl, hi, hz⟩ := hWE2.2 (by omega)
              obtain ⟨ad, rfl, hadb, hc⟩ := hr8 i z hi
              have hil : i < k := by have := (List.getElem?_eq_some_iff.1 hi).1; have := HN.out; omega
              have hy2 : ¬ y = 0 := by omega
              have hy3 : 0 < y := by omega
              have hi1 : ¬ (i : Int) < 0 := by omega
              have hi0 : (0 : Int) ≤ (i : Int) := by omega
              have hi2 : (i : Int) < (k : Int) := by omega
              have hi3 : ¬ (k : Int) ≤ (i : Int) := by omega
              have hz2 : ¬ z = 0 := by omega
              have hz3 : (z == 0) = false := by simpa using hz2
              have hi4 : ¬ k ≤ i := by omega
              clear hWE2 hi
              go_wp2_with fail
              refine ⟨?_, ?_⟩
              · first
                | exact ⟨j + 1, t3, by omega, by go_num, H3, hX8, hY8, hB8⟩
                | repeat apply Exists.intro
                  refine ⟨?_, rfl⟩
                  exact ⟨j + 1, t3, by omega, by go_num, H3, hX8, hY8, hB8⟩
              · simp [intOf]; omega
        · have j2 : ¬ (j : Int) < 20 := by omega
          go_wp2_with fail
          refine (skyNext_any t p wr ht.out hX).mono ?_
          rintro e w5 ⟨rfl, hX5, ho5⟩
          have hY5 : SkyB w5 q t := Blk.only hY ho5 (by omega)
          have hB5 : Below w.heap.size w w5 := hB1.trans (ho5.below hp)
          clear hX hY hB1 ho5
          go_wp2_with fail
          refine (skyNext_any t q w5 ht.out hY5).mono ?_
          rintro e w6 ⟨rfl, hY6, ho6⟩
          have hB6 : Below w.heap.size w w6 := hB5.trans (ho6.below hq)
          clear hX5 hY5 hB5 ho6 hY6
          go_wp2_with fail
          go_ret
          exact ⟨rfl, hB6⟩
theorem weatherWithin_all (s : Nat) (m : Int) (A : Option Addr) (n c : Nat) (l : List Int) (w : World) (hs : s < 18446744073709551616) (hm : -9223372036854775808 ≤ m ∧ m ≤ 9223372036854775807) (hn0 : l.length = n) (hr : RdI w.heap.size w A l) (hmx : n ≤ maxLen) (_ : n ≤ c) (_ : ∀ x, x ∈ l → -9223372036854775808 ≤ x ∧ x ≤ 9223372036854775807) :
    Calls Try.prog 6 #[.int .u64 (s : Int), .int .i64 m, .slice A n c] w fun e w' => e = .returned (.bool true) ∧ Below w.heap.size w w' := lawWithin_all s m A n c l w hs hm hn0 hr hmx
end Go.Proofs.Ytkfhkfddhijkcaa
