/-
  WHAT IS PROVED: package pack's reader: Number, Int, count, Text, Flag, small: what they answer and leave, as the chapter says. Conditions: those typed in each theorem. · package pack's reader: count, Text, Flag, small: what they answer and leave, as the chapter says. Conditions: those typed in each theorem. · the document's bytes of good writes, of lists of them (spinneyref05.Writes). Conditions: those typed in each theorem. · a slice of bytes cut off at its front, at its end, at both, as one word (own work); over any program that bears the types named. · the document's taking of ints, texts and flags from bytes (spinneyref05), for all bytes. Conditions: those typed in each theorem. · the document's taking of values from bytes (spinneyref05.TakeValue), for all bytes. Conditions: those typed in the theorem. · the document's taking of writes from bytes (spinneyref05.TakeWrite). Conditions: those typed in the theorem. · words for slices of writes that the call owns (own work); append of one write onto such a row. Over any program that bears the types named. · the document's taking of lists of writes from bytes (spinneyref05.TakeWrites). Conditions: those typed in the theorem. · whether two lists of writes are the same (spinneyref03.Same), for all slices of writes. Conditions: those typed in the theorem. · nothing but plain facts: as definitions, what the walks of layer 5's statements take of package pack's calls on values and writes. The definitions are proved elsewhere, of the code itself. · plain facts: the steps by which package pack's reader takes a value come to what the chapter says is taken. No program is spoken of.
-/
import Derived.Test.YtpjleeeligahaaaGreatDoorGQ2
import Derived.Laws.BitsAllLaws
import Derived.Test.YtpjleeeligahaaaGreatDoorGQ1
import Derived.Test.YtpjleeeligahaaaGreatDoorGQ0
import Derived.Deep.Cut
namespace Go.Proofs.YtpjleeeligahaaaGreatDoor
open Go.RowKit

set_option maxRecDepth 100000 in
theorem sound64_any (S : Addr) (g : Nat) (st : Rest) (x : Nat) (w : World) (hR : RdrP S w g st) :
    Calls Tryz.prog 69 #[.pointer (some ⟨g, 0, none⟩), .int .u64 x] w fun e w' => e = .returned (.int .u64 ((soundM 0 st x : Nat) : Int)) ∧ w' = w := by
  cases st with
  | none =>
    obtain ⟨e1, he1, hb⟩ := hR
    obtain ⟨t1, v1, rfl⟩ := errP_nil he1
    have c1 := hb.cell 1
    go_enter Tryz.func69, Tryz.ntmps69
    go_wp2_with fail
    go_ret
    exact ⟨rfl, rfl⟩
  | some b =>
    obtain ⟨hl, s, hs, hb⟩ := hR
    have c1 := hb.cell 1
    go_enter Tryz.func69, Tryz.ntmps69
    go_wp2_with fail
    go_ret
    exact ⟨rfl, rfl⟩

theorem ba_get (s : ByteArray) (k : Nat) (h : k < s.size) : s.data.toList[k]? = some s[k] := by
  rw [List.getElem?_eq_getElem (by simpa using h)]
  rfl
theorem byte_ne (c : UInt8) : ((c.toNat : Int) != 0) = (c != 0) := by
  rw [Bool.eq_iff_iff]
  simp only [bne_iff_ne, ne_eq]
  constructor
  · intro h e
    subst e
    exact h rfl
  · intro h e
    exact h (UInt8.toNat_inj.1 (by simpa using e))
set_option maxRecDepth 100000 in
theorem grown_chain {a b c : World} {g : Nat} (h : a.grownBy b (some g)) (k : b.grownBy c (some g)) : a.grownBy c (some g) := h.trans k

set_option maxRecDepth 100000 in
set_option maxHeartbeats 400000 in
theorem rNumber_any (S : Addr) (g : Nat) (st : Rest) (most : Nat) (w : World) (hL : LaidS S w) (hR : RdrP S w g st) (hmost : most < 18446744073709551616) :
    Calls Tryz.prog 32 #[.pointer (some ⟨g, 0, none⟩), .int .u64 most] w fun e w' => e = .returned (.int .u64 ((numOf st most).1 : Nat)) ∧ RdrP S w' g (numOf st most).2 ∧ w.grownBy w' (some g) := by
  have hnum : numOf st most = (soundM 0 (mustM (decide (beV (digM st).1 ≤ most)) (mustM (headOk (digM st).1) (digM st).2)) (beV (digM st).1), mustM (decide (beV (digM st).1 ≤ most)) (mustM (headOk (digM st).1) (digM st).2)) := (number_is st most).symm
  rw [hnum]
  clear hnum
  have hlen := digM_len st
  have hlt := digM_lt st
  have hD : digM st = takeM (mustM (decide ((nextM st).1.toNat ≤ 8)) (nextM st).2) (nextM st).1.toNat := rfl
  have hN := next_any S g st w hL hR
  have HL := Lib.hid (fun W (hg : w.grownBy W (some g)) => hL.grown hR hg)
  generalize digM st = D at hlen hlt hD ⊢
  generalize nextM st = p at hD hN
  obtain ⟨c0, st1⟩ := p
  obtain ⟨d, st3⟩ := D
  dsimp only at hlen hlt hD hN ⊢
  have hc0 := c0.toNat_lt
  have HM := Lib.hid hmost
  have HD := Lib.hid hD
  clear hD hmost hL hR
  go_enter Tryz.func32, Tryz.ntmps32
  go_wp2_with fail
  refine hN.mono ?_
  rintro e w1 ⟨rfl, hR1, hg1⟩
  have hd : decide ((c0.toNat : Int) ≤ 8) = decide (c0.toNat ≤ 8) := decide_eq_decide.2 (by omega)
  go_wp2_with fail
  refine (must_any S g st1 _ _ w1 hR1).mono ?_
  rintro e w2 ⟨rfl, hR2, hg2⟩
  have hG2 := hg1.trans hg2
  have HT := Lib.hid (take_any S g _ c0.toNat w2 (HL.out w2 hG2) hR2 (by omega))
  clear hd hN hg1 hg2 hR1 hR2
  generalize (mustM (decide (c0.toNat ≤ 8)) st1) = st2 at HT HD
  go_wp2_with fail
  refine HT.out.mono ?_
  rintro e w3 ⟨⟨s, rfl, hs⟩, hR3, hg3⟩
  rw [← HD.out] at hs hR3
  dsimp only at hs hR3
  have hG3 := hG2.trans hg3
  clear hG2 hg3 HT HD hc0
  have hsz : s.size = d.length := by rw [← hs]; exact Array.length_toList.symm
  have hstep : ∀ K : Act → World → Prop, True := fun _ => trivial
  clear hstep
  have hcase : (d.isEmpty = true ∧ s.toList.isEmpty = true ∧ headOk d = true) ∨ (∃ h : 0 < s.size, s.toList.isEmpty = false ∧ (((s[0]'h).toNat : Int) != 0) = headOk d) := by
    cases d with
    | nil => exact .inl ⟨rfl, by rw [ByteArray.toList_eq, hs]; rfl, rfl⟩
    | cons c r =>
      have h : 0 < s.size := by rw [hsz]; simp
      refine .inr ⟨h, by rw [ByteArray.toList_eq, hs]; rfl, ?_⟩
      have hg := ba_get s 0 h
      rw [hs] at hg
      have hc : c = s[0] := by injection hg
      rw [← hc]
      exact byte_ne c
  have HS := Lib.hid hs
  have HZ := Lib.hid hsz
  have hs64 : (s.size : Int) ≤ 8 := by omega
  clear hs hsz
  rcases hcase with ⟨-, hE, hO⟩ | ⟨h0, hE, hO⟩
  all_goals
    go_wp2_with fail
    refine (must_any S g _ _ _ w3 hR3).mono ?_
    rintro e w4 ⟨rfl, hR4, hg4⟩
    have hG4 := hG3.trans hg4
    clear hG3 hg4 hR3
    go_wp2_with fail
    go_loopw [7, 30] (fun t u wr => ∃ j : Nat, j ≤ s.size ∧ t = .int .u64 (beV (d.take j) : Nat) ∧ u = .int .i64 j ∧ wr = w4) (fun _ u _ => s.size - (intOf u).toNat)
    case atStart => exact ⟨0, Nat.zero_le _, by simp [beV_nil], rfl, rfl⟩
    case round =>
      obtain ⟨j, hj, rfl, rfl, rfl⟩ := hrel
      by_cases hlt2 : j < s.size
      · have i1 : (0 : Int) ≤ (j : Int) := by omega
        have i2 : (j : Int) < (s.size : Int) := by omega
        have hg : d[j]? = some s[j] := by rw [← HS.out]; exact ba_get s j hlt2
        have hb := beV_take hg
        have hbl := beV_take_lt d (j + 1) (by omega)
        have HV := Lib.hid (or_byte (beV (d.take j)) s[j].toNat (by rw [← hb]; exact hbl) s[j].toNat_lt)
        rw [← hb] at HV
        clear hg hb hbl
        go_wp2_with fail
        exact ⟨⟨j + 1, by omega, by rw [HV.out], by go_num, trivial⟩, by simp [intOf]; omega⟩
      · have i2 : ¬ (j : Int) < (s.size : Int) := by omega
        have e : d.take j = d := List.take_of_length_le (by have := HZ.out; omega)
        rw [e]
        have hm : decide ((beV d : Int) ≤ (most : Int)) = decide (beV d ≤ most) := decide_eq_decide.2 (by omega)
        go_wp2_with fail
        refine (must_any S g _ _ _ _ hR4).mono ?_
        rintro e w5 ⟨rfl, hR5, hg5⟩
        go_wp2_with fail
        refine (sound64_any S g _ _ _ hR5).mono ?_
        rintro e w6 ⟨rfl, rfl⟩
        go_wp2_with fail
        go_ret
        first
          | exact ⟨rfl, hR5, hG4.trans hg5⟩
          | (rw [hO]; exact ⟨rfl, hR5, hG4.trans hg5⟩)

theorem numOf_lt (st : Rest) (most : Nat) : (numOf st most).1 ≤ most ∧ (numOf st most).1 < 18446744073709551616 := by
  cases st with
  | none => exact ⟨Nat.zero_le _, Nat.lt_of_lt_of_le Nat.zero_lt_one (by omega)⟩
  | some b =>
    unfold numOf
    dsimp only
    by_cases h : (takeNum b most).2 = 0
    · rw [if_pos h]
      exact ⟨Nat.zero_le _, Nat.lt_of_lt_of_le Nat.zero_lt_one (by omega)⟩
    · rw [if_neg h]
      have := num_take (show takeNum b most = ((takeNum b most).1, (takeNum b most).2) from rfl) h
      exact ⟨this.1, this.2.1⟩

set_option maxRecDepth 100000 in
/-- The int that stands as a number. -/
theorem unfolded_any (u : Nat) (w : World) (hu : u < 18446744073709551616) :
    Calls Tryz.prog 155 #[.int .u64 u] w fun e w' => e = .returned (.int .i64 (unzig u)) ∧ w' = w := by
  have hn := not_any ((u : Int) / 2) (by omega) (by omega)
  have HN := Lib.hid hn
  by_cases h : u % 2 = 1
  · have g0 : (u : Int) % 2 = 1 := by omega
    have hz : unzig u = -1 - ((u / 2 : Nat) : Int) := if_pos h
    rw [hz]
    clear hn hz
    go_enter Tryz.func155, Tryz.ntmps155
    go_wp2_with fail
    go_ret
    refine ⟨ret_i64 ?_, rfl⟩
    rw [HN.out]
  · have g0 : (u : Int) % 2 = 0 := by omega
    have hz : unzig u = ((u / 2 : Nat) : Int) := if_neg h
    rw [hz]
    clear hn hz
    go_enter Tryz.func155, Tryz.ntmps155
    go_wp2_with fail
    go_ret
    refine ⟨ret_i64 ?_, rfl⟩
    omega

set_option maxRecDepth 100000 in
theorem rInt_any (S : Addr) (g : Nat) (st : Rest) (w : World) (hL : LaidS S w) (hR : RdrP S w g st) :
    Calls Tryz.prog 116 #[.pointer (some ⟨g, 0, none⟩)] w fun e w' => e = .returned (.int .i64 (intOfR st).1) ∧ RdrP S w' g (intOfR st).2 ∧ w.grownBy w' (some g) := by
  have e : intOfR st = (unzig (numOf st 18446744073709551615).1, (numOf st 18446744073709551615).2) := by
    cases st with
    | none => rfl
    | some b =>
      unfold intOfR numOf takeIntB
      dsimp only
      by_cases h : (takeNum b 18446744073709551615).2 = 0
      · rw [if_pos h, if_pos h]
        rfl
      · rw [if_neg h, if_neg h]
  rw [e]
  have hN := rNumber_any S g st 18446744073709551615 w hL hR (by omega)
  have hlt := (numOf_lt st 18446744073709551615).2
  generalize numOf st 18446744073709551615 = p at hN hlt
  have HU := Lib.hid (fun W => unfolded_any p.1 W hlt)
  clear hlt e
  go_enter Tryz.func116, Tryz.ntmps116
  go_wp2_with fail
  refine hN.mono ?_
  rintro e w1 ⟨rfl, hR1, hg1⟩
  go_wp2_with fail
  refine (HU.out w1).mono ?_
  rintro e w2 ⟨rfl, rfl⟩
  go_wp2_with fail
  go_ret
  exact ⟨rfl, hR1, hg1⟩
end Go.Proofs.YtpjleeeligahaaaGreatDoor

namespace Go.Proofs.YtpjleeeligahaaaGreatDoor
open Go.RowKit

theorem text_is (st : Rest) (most : Nat) : takeM (numOf st most).2 (numOf st most).1 = textOf st most := by
  cases st with
  | none => rfl
  | some b =>
    unfold numOf textOf takeTextB
    dsimp only
    by_cases h : (takeNum b most).2 = 0
    · simp [h, takeM]
    · rw [if_neg h]
      have hk := num_take (show takeNum b most = ((takeNum b most).1, (takeNum b most).2) from rfl) h
      by_cases hl : (takeNum b most).1 ≤ b.length - (takeNum b most).2
      · have hl' : (takeNum b most).1 ≤ (b.drop (takeNum b most).2).length := by rw [List.length_drop]; exact hl
        have hn : ¬ b.length - (takeNum b most).2 < (takeNum b most).1 := by omega
        have h0 : ¬ (takeNum b most).2 + (takeNum b most).1 = 0 := by omega
        simp [takeM, h, hl, hn, List.drop_drop]
      · have hn : b.length - (takeNum b most).2 < (takeNum b most).1 := by omega
        simp [takeM, h, hl, hn]
theorem byte_one (c : UInt8) : ((c.toNat : Int) == 1) = (c == 1) := by
  rw [Bool.eq_iff_iff]
  simp only [beq_iff_eq]
  constructor
  · intro h
    exact UInt8.toNat_inj.1 (by show c.toNat = 1; omega)
  · rintro rfl
    rfl
theorem flag_is (st : Rest) : ((((nextM st).1.toNat : Int) == 1), mustM (decide ((nextM st).1.toNat ≤ 1)) (nextM st).2) = flagOf st := by
  cases st with
  | none => rfl
  | some b =>
    cases b with
    | nil => rfl
    | cons c t =>
      show (((c.toNat : Int) == 1), mustM (decide (c.toNat ≤ 1)) (some t)) = _
      rw [byte_one]
      unfold flagOf takeFlagB
      dsimp only
      by_cases h : 1 < c.toNat
      · have h1 : ¬ c.toNat ≤ 1 := by omega
        have h2 : (c == 1) = false := by
          rw [beq_eq_false_iff_ne]
          rintro rfl
          exact absurd h (by decide)
        simp [mustM, h1, h, h2]
      · have h1 : c.toNat ≤ 1 := by omega
        simp [mustM, h1, h]
theorem rclone_any (s : ByteArray) (w : World) (hs : s.size ≤ 281474976710656) :
    Calls Tryz.prog 82 #[.string s] w fun e w' => e = .returned (.string s) ∧ Below w.heap.size w w' := by
  have h := Tryz.stringslite_Clone s w hs
  go_enter Tryz.func82, Tryz.ntmps82
  go_wp2_with fail
  refine h.mono ?_
  rintro e w1 ⟨rfl, hb⟩
  go_wp2_with fail
  go_ret
  exact ⟨rfl, hb⟩

set_option maxRecDepth 100000 in
/-- How many, at most most. -/
theorem count_any (S : Addr) (g : Nat) (st : Rest) (most : Nat) (w : World) (hL : LaidS S w) (hR : RdrP S w g st) (hm : most ≤ 1000000) :
    Calls Tryz.prog 115 #[.pointer (some ⟨g, 0, none⟩), .int .i64 most] w fun e w' => e = .returned (.int .i64 ((numOf st most).1 : Nat)) ∧ RdrP S w' g (numOf st most).2 ∧ w.grownBy w' (some g) := by
  have HL := Lib.hid (fun W (hg : w.grownBy W (some g)) => hL.grown hR hg)
  have hn := (numOf_lt st most).1
  have i0 : (0 : Int) ≤ (most : Int) := by omega
  have hmx : max (most : Int) 0 = (most : Int) := by omega
  have hw1 : IntKind.u64.wrap (most : Int) = (most : Int) := by
    rw [IntKind.wrap_u64]
    omega
  have hw2 : IntKind.i64.wrap ((numOf st most).1 : Int) = ((numOf st most).1 : Int) := by
    rw [IntKind.wrap_i64]
    omega
  go_enter Tryz.func115, Tryz.ntmps115
  go_wp2_with fail
  refine (must_any S g st _ _ w hR).mono ?_
  rintro e w1 ⟨rfl, hR1, hg1⟩
  have hR1' : RdrP S w1 g st := hR1
  go_wp2_with fail
  refine (rNumber_any S g st most w1 (HL.out w1 hg1) hR1' (by omega)).mono ?_
  rintro e w2 ⟨rfl, hR2, hg2⟩
  go_wp2_with fail
  go_ret
  exact ⟨rfl, hR2, hg1.trans hg2⟩

theorem textOf_len (S : Addr) (w : World) (g : Nat) (st : Rest) (most : Nat) (hR : RdrP S w g st) : (textOf st most).1.length ≤ 1000000 := by
  rw [← text_is]
  cases st with
  | none => exact Nat.zero_le _
  | some b =>
    obtain ⟨hl, _⟩ := hR
    have : ∀ (st1 : Rest) (n : Nat), (st1 = none ∨ ∃ k, st1 = some (b.drop k)) → (takeM st1 n).1.length ≤ b.length := by
      rintro st1 n (rfl | ⟨k, rfl⟩)
      · exact Nat.zero_le _
      · unfold takeM
        dsimp only
        by_cases h : n ≤ (b.drop k).length
        · rw [if_pos h, List.length_take, List.length_drop]
          omega
        · rw [if_neg h]
          exact Nat.zero_le _
    refine Nat.le_trans (this _ _ ?_) hl
    unfold numOf
    dsimp only
    by_cases h : (takeNum b most).2 = 0
    · rw [if_pos h]
      exact .inl rfl
    · rw [if_neg h]
      exact .inr ⟨_, rfl⟩

set_option maxRecDepth 100000 in
theorem rText_any (S : Addr) (g : Nat) (st : Rest) (most : Nat) (w : World) (hL : LaidS S w) (hR : RdrP S w g st) (hm : most ≤ 1000000) :
    Calls Tryz.prog 71 #[.pointer (some ⟨g, 0, none⟩), .int .i64 most] w fun e w' => (∃ s : ByteArray, e = .returned (.string s) ∧ s.data.toList = (textOf st most).1) ∧ RdrP S w' g (textOf st most).2 ∧ w.grownBy w' (some g) := by
  have HL := Lib.hid (fun W (hg : w.grownBy W (some g)) => hL.grown hR hg)
  have hsz := textOf_len S w g st most hR
  have hC := count_any S g st most w hL hR hm
  have hn := (numOf_lt st most).1
  rw [← text_is] at hsz ⊢
  generalize numOf st most = p at hC hn hsz ⊢
  clear hL hR
  go_enter Tryz.func71, Tryz.ntmps71
  go_wp2_with fail
  refine hC.mono ?_
  rintro e w1 ⟨rfl, hR1, hg1⟩
  go_wp2_with fail
  refine (take_any S g p.2 p.1 w1 (HL.out w1 hg1) hR1 (by omega)).mono ?_
  rintro e w2 ⟨⟨s, rfl, hs⟩, hR2, hg2⟩
  have hs2 : s.size ≤ 281474976710656 := by
    have : s.size = s.data.toList.length := Array.length_toList.symm
    rw [this, hs]
    omega
  go_wp2_with fail
  refine (rclone_any s w2 hs2).mono ?_
  rintro e w3 ⟨rfl, hb3⟩
  go_wp2_with fail
  go_ret
  exact ⟨⟨s, rfl, hs⟩, hR2.below hb3, (hg1.trans hg2).trans (grown_below hb3 _)⟩

set_option maxRecDepth 100000 in
theorem rFlag_any (S : Addr) (g : Nat) (st : Rest) (w : World) (hL : LaidS S w) (hR : RdrP S w g st) :
    Calls Tryz.prog 102 #[.pointer (some ⟨g, 0, none⟩)] w fun e w' => e = .returned (.bool (flagOf st).1) ∧ RdrP S w' g (flagOf st).2 ∧ w.grownBy w' (some g) := by
  have hN := next_any S g st w hL hR
  rw [← flag_is]
  generalize nextM st = p at hN ⊢
  obtain ⟨c0, st1⟩ := p
  dsimp only at hN ⊢
  clear hL hR
  have hd : decide ((c0.toNat : Int) ≤ 1) = decide (c0.toNat ≤ 1) := decide_eq_decide.2 (by omega)
  go_enter Tryz.func102, Tryz.ntmps102
  go_wp2_with fail
  refine hN.mono ?_
  rintro e w1 ⟨rfl, hR1, hg1⟩
  go_wp2_with fail
  refine (must_any S g st1 _ _ w1 hR1).mono ?_
  rintro e w2 ⟨rfl, hR2, hg2⟩
  go_wp2_with fail
  go_ret
  exact ⟨rfl, hR2, hg1.trans hg2⟩

set_option maxRecDepth 100000 in
theorem small_any (S : Addr) (g : Nat) (st : Rest) (w : World) (hL : LaidS S w) (hR : RdrP S w g st) :
    Calls Tryz.prog 70 #[.pointer (some ⟨g, 0, none⟩)] w fun e w' => e = .returned (.int .i64 ((numOf st 9223372036854775807).1 : Nat)) ∧ RdrP S w' g (numOf st 9223372036854775807).2 ∧ w.grownBy w' (some g) := by
  have hN := rNumber_any S g st 9223372036854775807 w hL hR (by omega)
  have hn := (numOf_lt st 9223372036854775807).1
  have hw2 : IntKind.i64.wrap ((numOf st 9223372036854775807).1 : Int) = ((numOf st 9223372036854775807).1 : Int) := by
    rw [IntKind.wrap_i64]
    omega
  generalize numOf st 9223372036854775807 = p at hN hn hw2 ⊢
  have hn2 : (p.1 : Int) ≤ 9223372036854775807 := by omega
  clear hn
  go_enter Tryz.func70, Tryz.ntmps70
  go_wp2_with fail
  refine hN.mono ?_
  rintro e w1 ⟨rfl, hR1, hg1⟩
  go_wp2_with fail
  go_ret
  exact ⟨rfl, hR1, hg1⟩
end Go.Proofs.YtpjleeeligahaaaGreatDoor

namespace Go.Proofs.YtpjleeeligahaaaGreatDoor
open Go.RowKit
attribute [local go_sem ↓] Go.wp_at_zero Go.wp_at_succ

/-- A write's bytes; a list's. -/
def wB (x : Wr) : List UInt8 := wrB x.dev.toNat x.seq.toNat x.K.toNat x.ky.data.toList x.ka x.na x.sa.data.toList x.kb x.nb x.sb.data.toList
def wsB (l : List Wr) : List UInt8 := numB l.length ++ l.flatMap wB
theorem goodB_in {k n : Int} {s : ByteArray} (h : goodB k n s = true) : (k = 0 ∨ k = 1 ∨ k = 2) ∧ s.size ≤ 40 := by
  unfold goodB at h
  rw [decide_eq_true_eq] at h
  omega
theorem good_in {x : Wr} (h : x.good = true) : (1 ≤ x.dev ∧ x.dev ≤ 11) ∧ (1 ≤ x.seq ∧ x.seq ≤ 40) ∧ (1 ≤ x.K ∧ x.K ≤ 4) ∧ x.ky.size ≤ 20 ∧ ((x.ka = 0 ∨ x.ka = 1 ∨ x.ka = 2) ∧ x.sa.size ≤ 40) ∧ ((x.kb = 0 ∨ x.kb = 1 ∨ x.kb = 2) ∧ x.sb.size ≤ 40) := by
  unfold Wr.good wrGoodB idB opB at h
  simp only [Bool.and_eq_true, decide_eq_true_eq] at h
  obtain ⟨h1, ⟨⟨h2, h3⟩, h4⟩, h5⟩ := h
  have h6 := (keyB_all h2).2.2
  have h7 : x.ky.data.toList.length = x.ky.size := Array.length_toList
  refine ⟨by omega, by omega, by omega, by omega, goodB_in h3, goodB_in h4⟩
theorem wB_small {x : Wr} (h : x.good = true) (hf : x.fits) : (wB x).length ≤ 5000000 := by
  obtain ⟨h1, h2, h3, h4, h5, h6⟩ := good_in h
  obtain ⟨_, _, _, f1, f2⟩ := hf
  unfold wB wrB
  simp only [List.length_append]
  have a1 := numB_small (n := x.dev.toNat) (by omega)
  have a2 := numB_small (n := x.seq.toNat) (by omega)
  have a3 := numB_small (n := x.K.toNat) (by omega)
  have a4 := textB_small (s := x.ky) (by omega)
  have a5 := valB_small (s := x.sa) h5.1 f1.1 f1.2 (by omega)
  have a6 := valB_small (s := x.sb) h6.1 f2.1 f2.2 (by omega)
  omega
theorem refPWr_any (x : Wr) (h : x.good = true) (hf : x.fits) (w : World) :
    Calls Tryz.prog 37 #[.agg x.cells] w fun e w' => (∃ (A : Option Addr) (m c : Nat), e = .returned (.slice A m c) ∧ OwnB w.heap.size w' A m c (wB x) ∧ m ≤ 5000000) ∧ Below w.heap.size w w' := by
  obtain ⟨h1, h2, h3, h4, h5, h6⟩ := good_in h
  obtain ⟨_, _, _, f1, f2⟩ := hf
  have hs := wB_small h ⟨by unfold maxLen; omega, by unfold maxLen; omega, by unfold maxLen; omega, f1, f2⟩
  have k := refPWrite_any x.dev.toNat x.seq.toNat x.K.toNat x.ky x.ka x.na x.sa x.kb x.nb x.sb w (by omega) (by omega) (by omega) (by omega) h5.1 f1.1 f1.2 (by omega) h6.1 f2.1 f2.2 (by omega)
  rw [show wrC x.dev.toNat x.seq.toNat x.K.toNat x.ky x.ka x.na x.sa x.kb x.nb x.sb = x.cells by
    show (#[_, _, _, _, _, _, _, _, _, _] : Array Value) = #[_, _, _, _, _, _, _, _, _, _]
    rw [Int.toNat_of_nonneg (by omega), Int.toNat_of_nonneg (by omega), Int.toNat_of_nonneg (by omega)]] at k
  exact k.mono fun _ _ ⟨⟨A, m, c, he, hO⟩, hb⟩ => ⟨⟨A, m, c, he, hO, by have := hO.len; unfold wB at hs; omega⟩, hb⟩

end Go.Proofs.YtpjleeeligahaaaGreatDoor

namespace Go.Proofs.YtpjleeeligahaaaGreatDoor
open Go.RowKit

/-- A slice cut off at its front: its address, in one word. -/
def cutA (A : Option Addr) (c p : Nat) : Option Addr := if c = p then A else A.map (·.add p)
theorem run_cut (W : World) (A : Option Addr) (n c p : Nat) (h : p ≤ n) :
    (Instr.sliceAt 23 (.slice A n c) (some (.int .i64 (p : Int))) none none).run Tryz.prog W = .ok (.slice (cutA A c p) (n - p) (c - p)) W := by
  have h1 : (p : Int) ≤ (n : Int) := by omega
  unfold cutA
  go_simp
theorem run_cutI (W : World) (A : Option Addr) (n c p : Nat) (z : Int) (hz : z = (p : Int)) (h : p ≤ n) :
    (Instr.sliceAt 23 (.slice A n c) (some (.int .i64 z)) none none).run Tryz.prog W = .ok (.slice (cutA A c p) (n - p) (c - p)) W := by
  rw [hz]
  exact run_cut W A n c p h
theorem RdB.cut {B : Nat} {W : World} {A : Option Addr} {l : List UInt8} (h : RdB B W A l) {p c : Nat} (hc : l.length ≤ c) : RdB B W (cutA A c p) (l.drop p) := h.drop hc
/-- .. at both ends. -/
theorem run_cut2 (W : World) (A : Option Addr) (n c p q : Nat) (y z : Int) (hy : y = (p : Int)) (hz : z = (q : Int)) (h : p ≤ q) (hq : q ≤ n) (hc : n ≤ c) :
    (Instr.sliceAt 23 (.slice A n c) (some (.int .i64 y)) (some (.int .i64 z)) none).run Tryz.prog W = .ok (.slice (cutA A c p) (q - p) (c - p)) W := by
  have h1 : (p : Int) ≤ (q : Int) := by omega
  have h2 : (q : Int) ≤ (c : Int) := by omega
  rw [hy, hz]
  unfold cutA
  go_simp
/-- .. at its end. -/
theorem run_cut0 (W : World) (A : Option Addr) (n c q : Nat) (z : Int) (hz : z = (q : Int)) (hq : q ≤ n) (hc : n ≤ c) :
    (Instr.sliceAt 23 (.slice A n c) none (some (.int .i64 z)) none).run Tryz.prog W = .ok (.slice A q c) W := by
  have h2 : (q : Int) ≤ (c : Int) := by omega
  rw [hz]
  go_simp
theorem RdB.sub {B : Nat} {W : World} {A : Option Addr} {l : List UInt8} (h : RdB B W A l) {p c : Nat} (hc : l.length ≤ c) (m : Nat) : RdB B W (cutA A c p) ((l.drop p).take m) := (h.cut hc).take m
end Go.Proofs.YtpjleeeligahaaaGreatDoor

namespace Go.Proofs.YtpjleeeligahaaaGreatDoor
open Go.RowKit

theorem takeNum_lt (l : List UInt8) (most : Nat) : (takeNum l most).1 < 18446744073709551616 ∧ (takeNum l most).1 ≤ most ∧ (takeNum l most).2 ≤ 9 ∧ (takeNum l most).2 ≤ l.length := by
  generalize hp : takeNum l most = p
  obtain ⟨v, k⟩ := p
  by_cases h : k = 0
  · have h1 : v = 0 := by
      subst h
      cases l with
      | nil => unfold takeNum at hp; injection hp with e1 _; exact e1.symm
      | cons c t =>
        rw [takeNum_cons] at hp
        split at hp
        · injection hp with e1 _; exact e1.symm
        · split at hp
          · injection hp with e1 _; exact e1.symm
          · injection hp with _ e2; omega
    simp only
    omega
  · obtain ⟨a1, a2, a3, a4, a5, a6⟩ := num_take hp h
    have h2 := congrArg List.length a4
    rw [List.length_append, List.length_drop, ← a3] at h2
    simp only
    omega

theorem unz_odd {v : Nat} (hp : v % 2 = 1) (h : v < 18446744073709551616) : wrap64 (-1 - wrap64 (IntKind.u64.wrap ((v : Int) / 2))) = unzig v := by
  unfold unzig wrap64
  rw [if_pos hp]
  simp only [IntKind.wrap_u64]
  omega
theorem unz_even {v : Nat} (hp : ¬ v % 2 = 1) (h : v < 18446744073709551616) : wrap64 (IntKind.u64.wrap ((v : Int) / 2)) = unzig v := by
  unfold unzig wrap64
  rw [if_neg hp]
  simp only [IntKind.wrap_u64]
  omega

end Go.Proofs.YtpjleeeligahaaaGreatDoor

namespace Go.Proofs.YtpjleeeligahaaaGreatDoor
open Go.RowKit

/-- A value, taken: kind, number, text; how many bytes. -/
def takeValC (v k : Nat) (b : List UInt8) : (Int × Int × List UInt8) × Nat :=
  if k = 0 ∨ v = 0 then ((0, 0, []), k)
  else if v = 1 then (if (takeIntB (b.drop k)).2 = 0 then ((0, 0, []), 0) else ((1, (takeIntB (b.drop k)).1, []), k + (takeIntB (b.drop k)).2))
  else (if (takeTextB (b.drop k) 40).2 = 0 then ((0, 0, []), 0) else ((2, 0, (takeTextB (b.drop k) 40).1), k + (takeTextB (b.drop k) 40).2))
def takeValB (b : List UInt8) : (Int × Int × List UInt8) × Nat := takeValC (takeNum b 2).1 (takeNum b 2).2 b
/-- What TakeValue answers. -/
def TakeVP (r : (Int × Int × List UInt8) × Nat) (w : World) (e : Ending) (w' : World) : Prop :=
  (∃ s : ByteArray, e = .returned (.tuple #[.agg #[.int .i64 r.1.1, .int .i64 r.1.2.1, .string s], .int .i64 (r.2 : Nat)]) ∧ s.data.toList = r.1.2.2) ∧ Below w.heap.size w w'

theorem takeText_le (l : List UInt8) (most : Nat) : (takeTextB l most).2 ≤ l.length := by
  unfold takeTextB
  have h := takeNum_lt l most
  split
  · simp
  · rename_i h1
    have h2 : ¬ l.length - (takeNum l most).2 < (takeNum l most).1 := fun e => h1 (Or.inr e)
    simp only
    omega
theorem takeInt_le (l : List UInt8) : (takeIntB l).2 ≤ l.length := (takeNum_lt l 18446744073709551615).2.2.2
theorem takeInt_nil : takeIntB [] = (0, 0) := rfl
theorem takeText_nil (most : Nat) : takeTextB [] most = ([], 0) := rfl
/-- A slice cut off at its front, in the model's two forms. -/
theorem cut_cases {B : Nat} {w : World} {A : Option Addr} {n c k : Nat} {l : List UInt8} (hr : RdB B w A l) (hn : l.length = n) (hk : k ≤ n) (hc : n ≤ c) :
    (c = k ∧ n = k ∧ l.drop k = []) ∨ (c ≠ k ∧ RdB B w (A.map (·.add k)) (l.drop k) ∧ (l.drop k).length = n - k) := by
  by_cases h : c = k
  · exact Or.inl ⟨h, by omega, List.drop_eq_nil_of_le (by omega)⟩
  · have h1 := hr.drop (m := k) (c := c) (by omega)
    rw [if_neg h] at h1
    exact Or.inr ⟨h, h1, by rw [List.length_drop, hn]⟩
theorem below3b {w W : World} {b : Nat} (h : Below w.heap.size w W) (hb : w.heap.size ≤ b) (v0 v1 v2 : Value) : Below w.heap.size w (((W.setCell ⟨b, 0, none⟩ v0).setCell ⟨b, 1, none⟩ v1).setCell ⟨b, 2, none⟩ v2) :=
  ((h.setCell (p := ⟨b, 0, none⟩) hb v0).setCell (p := ⟨b, 1, none⟩) hb v1).setCell (p := ⟨b, 2, none⟩) hb v2
theorem dr_below {w a b : World} (h : Below w.heap.size w a) (k : Drn a b) : Below w.heap.size w b := bt h (k.below _)

end Go.Proofs.YtpjleeeligahaaaGreatDoor

namespace Go.Proofs.YtpjleeeligahaaaGreatDoor
open Go.RowKit
attribute [local go_sem ↓] Go.wp_at_zero Go.wp_at_succ

/-- Where the three numbers stand. -/
def posW (l : List UInt8) : Nat → Nat
  | 0 => 0
  | j + 1 => posW l j + (takeNum (l.drop (posW l j)) 1000).2
/-- The number that stands at the j-th place; how many bytes. -/
def numW (l : List UInt8) (j : Nat) : Nat × Nat := takeNum (l.drop (posW l j)) 1000
theorem posW_succ (l : List UInt8) (j : Nat) : posW l (j + 1) = posW l j + (numW l j).2 := rfl
/-- What the array holds ahead of round j. -/
def cellW (l : List UInt8) (j i : Nat) : Value := if i < j then .int .i64 ((numW l i).1 : Nat) else .int .i64 0
abbrev rowW (l : List UInt8) (j : Nat) : Array Value := #[cellW l j 0, cellW l j 1, cellW l j 2]
abbrev zeroW : Array Value := wrI 0 0 0 ⟨#[]⟩ 0 0 ⟨#[]⟩ 0 0 ⟨#[]⟩
theorem numW_lt (l : List UInt8) (j : Nat) : (numW l j).1 ≤ 1000 ∧ (numW l j).2 ≤ 9 := ⟨(takeNum_lt _ 1000).2.1, (takeNum_lt _ 1000).2.2.1⟩
theorem posW_le (l : List UInt8) : ∀ j, posW l j ≤ l.length
  | 0 => Nat.zero_le _
  | j + 1 => by
    have h := posW_le l j
    have k := (takeNum_lt (l.drop (posW l j)) 1000).2.2.2
    rw [List.length_drop] at k
    show posW l j + (takeNum (l.drop (posW l j)) 1000).2 ≤ _
    omega

theorem blk_f10 {W : World} {b : Nat} {v0 v1 v2 v3 v4 v5 v6 v7 v8 v9 : Value} {t : TypeId} (h : Blk W b #[v0, v1, v2, v3, v4, v5, v6, v7, v8, v9] t) :
    W.frozen? ⟨b, 0, none⟩ = false ∧ W.frozen? ⟨b, 1, none⟩ = false ∧ W.frozen? ⟨b, 2, none⟩ = false ∧ W.frozen? ⟨b, 3, none⟩ = false ∧ W.frozen? ⟨b, 4, none⟩ = false ∧ W.frozen? ⟨b, 5, none⟩ = false ∧ W.frozen? ⟨b, 6, none⟩ = false ∧ W.frozen? ⟨b, 7, none⟩ = false ∧ W.frozen? ⟨b, 8, none⟩ = false ∧ W.frozen? ⟨b, 9, none⟩ = false :=
  ⟨h.free 0, h.free 1, h.free 2, h.free 3, h.free 4, h.free 5, h.free 6, h.free 7, h.free 8, h.free 9⟩
theorem below10 {B b : Nat} {w W : World} (h : Below B w W) (hb : B ≤ b) (v0 v1 v2 v3 v4 v5 v6 v7 v8 v9 : Value) : Below B w ((((((((((W.setCell ⟨b, 0, none⟩ v0).setCell ⟨b, 1, none⟩ v1).setCell ⟨b, 2, none⟩ v2).setCell ⟨b, 3, none⟩ v3).setCell ⟨b, 4, none⟩ v4).setCell ⟨b, 5, none⟩ v5).setCell ⟨b, 6, none⟩ v6).setCell ⟨b, 7, none⟩ v7).setCell ⟨b, 8, none⟩ v8).setCell ⟨b, 9, none⟩ v9) := ((((((((((h.setCell (p := ⟨b, 0, none⟩) hb v0).setCell (p := ⟨b, 1, none⟩) hb v1).setCell (p := ⟨b, 2, none⟩) hb v2).setCell (p := ⟨b, 3, none⟩) hb v3).setCell (p := ⟨b, 4, none⟩) hb v4).setCell (p := ⟨b, 5, none⟩) hb v5).setCell (p := ⟨b, 6, none⟩) hb v6).setCell (p := ⟨b, 7, none⟩) hb v7).setCell (p := ⟨b, 8, none⟩) hb v8).setCell (p := ⟨b, 9, none⟩) hb v9)
theorem rowW_set (l : List UInt8) {j v k : Nat} (hj : j < 3) (h : numW l j = (v, k)) : (rowW l j).setIfInBounds j (.int .i64 (v : Int)) = rowW l (j + 1) := by
  have e : j = 0 ∨ j = 1 ∨ j = 2 := by omega
  rcases e with rfl | rfl | rfl <;> simp [rowW, cellW, h]
theorem takeVal_le (l : List UInt8) : (takeValB l).2 ≤ l.length := by
  unfold takeValB takeValC
  have h := (takeNum_lt l 2).2.2.2
  have h1 := takeInt_le (l.drop (takeNum l 2).2)
  have h2 := takeText_le (l.drop (takeNum l 2).2) 40
  rw [List.length_drop] at h1 h2
  repeat' split
  all_goals simp only
  all_goals omega
/-- The text, the two values behind the numbers. -/
def textW (l : List UInt8) : List UInt8 × Nat := takeTextB (l.drop (posW l 3)) 20
def val1W (l : List UInt8) : (Int × Int × List UInt8) × Nat := takeValB (l.drop (posW l 3 + (textW l).2))
def val2W (l : List UInt8) : (Int × Int × List UInt8) × Nat := takeValB (l.drop (posW l 3 + (textW l).2 + (val1W l).2))
/-- What stands there, good or not. -/
def gotW (l : List UInt8) : Wr := ⟨((numW l 0).1 : Nat), ((numW l 1).1 : Nat), ((numW l 2).1 : Nat), ⟨(textW l).1.toArray⟩, (val1W l).1.1, (val1W l).1.2.1, ⟨(val1W l).1.2.2.toArray⟩, (val2W l).1.1, (val2W l).1.2.1, ⟨(val2W l).1.2.2.toArray⟩⟩
def stdW (l : List UInt8) : Prop := (∀ m, m < 3 → (numW l m).2 ≠ 0) ∧ (textW l).2 ≠ 0 ∧ (val1W l).2 ≠ 0 ∧ (val2W l).2 ≠ 0 ∧ (gotW l).good = true
open Classical in
/-- A write, taken; how many bytes; 0: no good one stands there. -/
noncomputable def takeWrB (l : List UInt8) : Wr × Nat :=
  if stdW l then (gotW l, posW l 3 + (textW l).2 + (val1W l).2 + (val2W l).2) else (⟨0, 0, 0, ⟨#[]⟩, 0, 0, ⟨#[]⟩, 0, 0, ⟨#[]⟩⟩, 0)
theorem takeWr_no {l : List UInt8} (h : ¬ stdW l) : takeWrB l = (⟨0, 0, 0, ⟨#[]⟩, 0, 0, ⟨#[]⟩, 0, 0, ⟨#[]⟩⟩, 0) := if_neg h
theorem takeWr_yes {l : List UInt8} (h : stdW l) : takeWrB l = (gotW l, posW l 3 + (textW l).2 + (val1W l).2 + (val2W l).2) := if_pos h
/-- What TakeWrite answers. -/
def TakeWP (r : Wr × Nat) (w : World) (e : Ending) (w' : World) : Prop := e = .returned (.tuple #[.agg r.1.cells, .int .i64 (r.2 : Nat)]) ∧ Below w.heap.size w w'

theorem takeText_sz (l : List UInt8) (most : Nat) : (takeTextB l most).1.length ≤ l.length := by
  unfold takeTextB
  split
  · simp
  · simp only [List.length_take, List.length_drop]
    omega
theorem takeVal_sz (l : List UInt8) : (takeValB l).1.2.2.length ≤ l.length := by
  unfold takeValB takeValC
  have h2 := takeText_sz (l.drop (takeNum l 2).2) 40
  rw [List.length_drop] at h2
  repeat' split
  all_goals simp only [List.length_nil]
  all_goals omega
theorem ba_of {s : ByteArray} {l : List UInt8} (h : s.data.toList = l) : s = ⟨l.toArray⟩ := by
  subst h
  cases s
  simp
end Go.Proofs.YtpjleeeligahaaaGreatDoor

namespace Go.Proofs.YtpjleeeligahaaaGreatDoor
open Go.RowKit

/-- The cells of writes. -/
abbrev wrV (l : List Wr) : List Value := l.flatMap fun x => x.cells.toList
theorem wrV_len (l : List Wr) : (wrV l).length = l.length * 10 := by
  induction l with
  | nil => rfl
  | cons x t ih =>
    show (x.cells.toList ++ wrV t).length = _
    rw [List.length_append, ih]
    show 10 + t.length * 10 = (t.length + 1) * 10
    omega
theorem wrV_get : ∀ (l : List Wr) (k j : Nat) (x : Wr) (v : Value), l[k]? = some x → x.cells[j]? = some v → (wrV l)[k * 10 + j]? = some v
  | [], k, j, x, v, h, _ => by simp at h
  | y :: t, 0, j, x, v, h, hv => by
    have e : y = x := by simpa using h
    subst e
    have hj : j < 10 := by
      have := (Array.getElem?_eq_some_iff.1 hv).1
      simpa using this
    show (y.cells.toList ++ wrV t)[0 * 10 + j]? = _
    rw [List.getElem?_append_left (by show _ < 10; omega), Nat.zero_mul, Nat.zero_add, Array.getElem?_toList]
    exact hv
  | y :: t, k + 1, j, x, v, h, hv => by
    have h2 : t[k]? = some x := by simpa using h
    have ih := wrV_get t k j x v h2 hv
    show (y.cells.toList ++ wrV t)[(k + 1) * 10 + j]? = _
    rw [List.getElem?_append_right (by show 10 ≤ _; omega)]
    show (wrV t)[(k + 1) * 10 + j - 10]? = _
    rw [show (k + 1) * 10 + j - 10 = k * 10 + j by omega]
    exact ih
/-- A row of writes that the call owns, in blocks from base on. -/
def OwnW (base : Nat) (W : World) (A : Option Addr) (n c : Nat) (l : List Wr) : Prop := W.ownsRow base 47 10 (.slice A n c) n (wrV l)
theorem OwnW.nil (base : Nat) (W : World) : OwnW base W none 0 0 [] := World.ownsRow_nil W base 47 10
theorem OwnW.len {base : Nat} {W : World} {A : Option Addr} {n c : Nat} {l : List Wr} (h : OwnW base W A n c l) : l.length = n := by
  have h1 := h.1
  have h2 := wrV_len l
  omega
theorem OwnW.rd {base : Nat} {W : World} {A : Option Addr} {n c : Nat} {l : List Wr} (h : OwnW base W A n c l) : RdW W.heap.size W A l := by
  intro k x hx
  have hk := (List.getElem?_eq_some_iff.1 hx).1
  have hl := h.len
  obtain ⟨g, cap, hv, _, hlt⟩ := World.ownsRow.form h (by omega)
  injection hv with hv
  subst hv
  exact ⟨_, rfl, hlt, fun j v hj => h.cells (g := g) rfl _ _ (wrV_get l k j x v hx hj)⟩
theorem OwnW.keep {base : Nat} {W W' : World} {A : Option Addr} {n c : Nat} {l : List Wr} (h : OwnW base W A n c l) (hb : Below W.heap.size W W') : OwnW base W' A n c l :=
  World.ownsRow.kept h (row := none) ⟨hb.os, hb.tape, hb.output, hb.size, fun k hk _ => hb.block k hk⟩ (by cases A <;> simp [Value.ownBlock])
theorem OwnW.less {base b2 : Nat} {W : World} {A : Option Addr} {n c : Nat} {l : List Wr} (h : OwnW base W A n c l) (hb : b2 ≤ base) : OwnW b2 W A n c l := by
  refine ⟨h.1, ?_⟩
  rcases h.2 with h | ⟨g, cap, cur, h1, h2, h3⟩
  · exact .inl h
  · exact .inr ⟨g, cap, cur, h1, by omega, h3⟩
theorem wr_info : (Tryz.prog.info? 47).map (fun i => (i.zero, i.size, i.bytes)) = some (some (.agg (wrI 0 0 0 ⟨#[]⟩ 0 0 ⟨#[]⟩ 0 0 ⟨#[]⟩)), 10, 104) := by kernel_rfl
theorem wr_one (x : Wr) : ∀ u ∈ x.cells.toList, u.oneCell' = true := by
  intro u hu
  simp only [List.mem_cons, List.not_mem_nil, or_false] at hu
  rcases hu with rfl | rfl | rfl | rfl | rfl | rfl | rfl | rfl | rfl | rfl <;> rfl
/-- Append of one write onto a row of the call's own. -/
theorem run_apW {P : Program} (w : World) {t t' e' ty : TypeId} {i : TypeInfo} (ht : P.underlying t = some (.slice 47)) (ht' : P.underlying t' = some (.slice e')) (hi : P.info? 47 = some i) (hz : i.zero = some (.agg (wrI 0 0 0 ⟨#[]⟩ 0 0 ⟨#[]⟩ 0 0 ⟨#[]⟩))) (hs : i.size = 10) (hy : i.bytes = 104)
    {base : Nat} {A : Option Addr} {ad : Addr} {n c d : Nat} {l : List Wr} {x : Wr} (hown : OwnW base w A n c l) (hr : ∀ j v, x.cells[j]? = some v → w.cell? (ad.add j) = some v) (hsz : n ≤ 1000000) (hbase : base ≤ w.heap.size) :
    ∃ A' c' w', (Builtin.append_ #[t, t'] ty #[.slice A n c, .slice (some ad) 1 d]).run P w = .ok (.slice A' (n + 1) c') w' ∧ OwnW base w' A' (n + 1) c' (l ++ [x]) ∧ Below base w w' := by
  obtain ⟨v', w', hrun, h2, h3, _, _⟩ := run_append_own_at (P := P) w base t ty 47 i (.agg (wrI 0 0 0 ⟨#[]⟩ 0 0 ⟨#[]⟩ 0 0 ⟨#[]⟩)) 10 104 ht hi hz hs hy rfl (by omega) (.slice A n c) n (wrV l) hown ad 1 d x.cells.toList rfl (fun j u hu => hr j u (by rw [← Array.getElem?_toList]; exact hu)) (wr_one x)
    (by unfold maxLen; omega) (by omega) hbase
  have hb : Below base w w' := (Below.refl base w).grown h3 hbase (fun k hk => (World.ownsRow.lt hown k hk).1)
  have hv : ∃ A' c', v' = .slice A' (n + 1) c' := by
    rcases h2.2 with ⟨_, e2⟩ | ⟨g, cap, cur, e1, _⟩
    · omega
    · exact ⟨_, _, e1⟩
  obtain ⟨A', c', rfl⟩ := hv
  refine ⟨A', c', w', by rw [run_append_tt w ht ht']; exact hrun, ?_, hb⟩
  unfold OwnW
  rw [show wrV (l ++ [x]) = wrV l ++ x.cells.toList by simp [wrV]]
  exact h2
section
variable {P : Program} {w : World} {t t' e' : TypeId} {i : TypeInfo} {base : Nat} {A : Option Addr} {ad : Addr} {n c d : Nat} {l : List Wr} {xx : Wr} {o : Oper} {a : Act} {Q : Exit → Act → World → Prop} {ops : Array Oper}
/-- .. in a plain region. -/
theorem wpList_apW {rest : List Oper} (hgd : o.guard = none) (s x : Operand) (ho : o.op = .call { callee := .builtin .append, args := #[s, x], argTypes := #[t, t'] })
    (ht : P.underlying t = some (.slice 47)) (ht' : P.underlying t' = some (.slice e')) (hi : P.info? 47 = some i) (hz : i.zero = some (.agg (wrI 0 0 0 ⟨#[]⟩ 0 0 ⟨#[]⟩ 0 0 ⟨#[]⟩))) (hs : i.size = 10) (hy : i.bytes = 104)
    (h1 : a.eval s = .slice A n c) (h2 : a.eval x = .slice (some ad) 1 d) (hown : OwnW base w A n c l) (hr : ∀ j v, xx.cells[j]? = some v → w.cell? (ad.add j) = some v) (hsz : n ≤ 1000000) (hbase : base ≤ w.heap.size)
    (h : ∀ A' c' w', OwnW base w' A' (n + 1) c' (l ++ [xx]) → Below base w w' → wpList P ops Q rest (a.put o.dst (.slice A' (n + 1) c')) w') : wpList P ops Q (o :: rest) a w := by
  refine wpList_plain hgd fun _ hK => ?_
  obtain ⟨A', c', w', hrun, k1, k2⟩ := run_apW (P := P) (ty := o.type) (d := d) w ht ht' hi hz hs hy hown hr hsz hbase
  unfold Oper.wp execOp
  simp only [ho, resolve, invoke, builtin, Sem.run_bind, Sem.run_pure, Result.andThen_ok, List.map_toArray, List.map_cons, List.map_nil, h1, h2, hrun]
  exact hK _ _ (h A' c' w' k1 k2)
end
end Go.Proofs.YtpjleeeligahaaaGreatDoor

namespace Go.Proofs.YtpjleeeligahaaaGreatDoor
open Go.RowKit
attribute [local go_sem ↓] Go.wp_at_zero Go.wp_at_succ

/-- Where the first j writes end; are they all there? -/
noncomputable def posWs (l : List UInt8) (most : Nat) : Nat → Nat
  | 0 => (takeNum l most).2
  | j + 1 => posWs l most j + (takeWrB (l.drop (posWs l most j))).2
noncomputable def nthWs (l : List UInt8) (most j : Nat) : Wr × Nat := takeWrB (l.drop (posWs l most j))
noncomputable def listWs (l : List UInt8) (most : Nat) : Nat → List Wr
  | 0 => []
  | j + 1 => listWs l most j ++ [(nthWs l most j).1]
def stdWs (l : List UInt8) (most : Nat) : Prop := (takeNum l most).2 ≠ 0 ∧ ∀ j, j < (takeNum l most).1 → (nthWs l most j).2 ≠ 0
open Classical in
/-- Writes, taken; how many bytes; 0: they don't stand there. -/
noncomputable def takeWrsB (l : List UInt8) (most : Nat) : List Wr × Nat :=
  if stdWs l most then (listWs l most (takeNum l most).1, posWs l most (takeNum l most).1) else ([], 0)
theorem takeWrs_no {l : List UInt8} {most : Nat} (h : ¬ stdWs l most) : takeWrsB l most = ([], 0) := if_neg h
theorem takeWrs_yes {l : List UInt8} {most : Nat} (h : stdWs l most) : takeWrsB l most = (listWs l most (takeNum l most).1, posWs l most (takeNum l most).1) := if_pos h
theorem listWs_len (l : List UInt8) (most : Nat) : ∀ j, (listWs l most j).length = j
  | 0 => rfl
  | j + 1 => by
    show (listWs l most j ++ [_]).length = _
    rw [List.length_append, listWs_len l most j]
    rfl
theorem takeWr_le (l : List UInt8) : (takeWrB l).2 ≤ l.length := by
  by_cases h : stdW l
  · rw [takeWr_yes h]
    have h1 := posW_le l 3
    have h2 := takeText_le (l.drop (posW l 3)) 20
    have h3 := takeVal_le (l.drop (posW l 3 + (textW l).2))
    have h4 := takeVal_le (l.drop (posW l 3 + (textW l).2 + (val1W l).2))
    rw [List.length_drop] at h2 h3 h4
    have e2 : (textW l).2 = (takeTextB (l.drop (posW l 3)) 20).2 := rfl
    have e3 : (val1W l).2 = (takeValB (l.drop (posW l 3 + (textW l).2))).2 := rfl
    have e4 : (val2W l).2 = (takeValB (l.drop (posW l 3 + (textW l).2 + (val1W l).2))).2 := rfl
    show posW l 3 + (textW l).2 + (val1W l).2 + (val2W l).2 ≤ _
    omega
  · rw [takeWr_no h]
    exact Nat.zero_le _
theorem posWs_le (l : List UInt8) (most : Nat) : ∀ j, posWs l most j ≤ l.length
  | 0 => (takeNum_lt l most).2.2.2
  | j + 1 => by
    have h := posWs_le l most j
    have k := takeWr_le (l.drop (posWs l most j))
    rw [List.length_drop] at k
    show posWs l most j + (takeWrB (l.drop (posWs l most j))).2 ≤ _
    omega
theorem posWs_succ (l : List UInt8) (most j : Nat) : posWs l most (j + 1) = posWs l most j + (nthWs l most j).2 := rfl
theorem add_zero_at (g j : Nat) : (⟨g, 0, none⟩ : Addr).add j = ⟨g, j, none⟩ := by
  unfold Addr.add
  by_cases h : j = 0
  · rw [if_pos h, h]
  · rw [if_neg h]
    simp
theorem new_cells (W : World) (x : Wr) (t : TypeId) : ∀ j v, x.cells[j]? = some v → (W.alloc (.cells x.cells t)).cell? ((⟨W.heap.size, 0, none⟩ : Addr).add j) = some v := by
  intro j v hv
  rw [add_zero_at, (blk_new W x.cells t).cell j]
  exact hv
/-- What TakeWrites answers: a slice that the call owns, nil of none. -/
def TakeWsP (r : List Wr × Nat) (w : World) (e : Ending) (w' : World) : Prop :=
  (∃ (A : Option Addr) (n c : Nat), e = .returned (.tuple #[.slice A n c, .int .i64 (r.2 : Nat)]) ∧ OwnW w.heap.size w' A n c r.1) ∧ Below w.heap.size w w'

end Go.Proofs.YtpjleeeligahaaaGreatDoor

namespace Go.Proofs.YtpjleeeligahaaaGreatDoor
open Go.RowKit
attribute [local go_sem ↓] Go.wp_at_zero Go.wp_at_succ

theorem str_ext {a b : ByteArray} (h : a.toList = b.toList) : a = b := by
  rw [ByteArray.toList_eq, ByteArray.toList_eq] at h
  cases a
  cases b
  simp only at h
  congr 1
  exact Array.toList_inj.1 h
theorem wr_neq {x y : Wr} (h : x ≠ y) (W : World) : (binOp .neq 47 (.agg x.cells) (.agg y.cells)).run Tryz.prog W = .ok (.bool true) W := by
  go_simp
  intro h0 h1 h2 h3 h4 h5 h6 h7 h8 h9
  refine h ?_
  have e3 := str_ext h3
  have e6 := str_ext h6
  have e9 := str_ext h9
  cases x
  cases y
  simp only at h0 h1 h2 e3 h4 h5 e6 h7 h8 e9
  simp only [h0, h1, h2, e3, h4, h5, e6, h7, h8, e9]
theorem wr_eq (x : Wr) (W : World) : (binOp .neq 47 (.agg x.cells) (.agg x.cells)).run Tryz.prog W = .ok (.bool false) W := by
  go_simp
open Classical in
/-- The same lists? -/
noncomputable def sameW (l l2 : List Wr) : Bool := decide (l = l2)
theorem sameW_iff (l l2 : List Wr) : sameW l l2 = true ↔ l = l2 := by
  unfold sameW
  simp
theorem sameW_no {l l2 : List Wr} (h : l ≠ l2) : sameW l l2 = false := Bool.eq_false_iff.2 fun e => h ((sameW_iff l l2).1 e)
theorem sameW_yes {l l2 : List Wr} (h : l = l2) : sameW l l2 = true := (sameW_iff l l2).2 h

set_option maxRecDepth 100000 in
set_option maxHeartbeats 4000000 in
theorem refWrSame_any {B C : Nat} (A A2 : Option Addr) (n c m d : Nat) (l l2 : List Wr) (w : World) (hn : l.length = n) (hr : RdW B w A l) (_hB : B ≤ w.heap.size) (hm : n ≤ 1000000) (hn2 : l2.length = m) (hr2 : RdW C w A2 l2) (_hC : C ≤ w.heap.size) :
    Calls Tryz.prog 51 #[.slice A n c, .slice A2 m d] w fun e w' => e = .returned (.bool (sameW l l2)) ∧ Drn w w' := by
  have HN := Lib.hid hn
  have HN2 := Lib.hid hn2
  by_cases hnm : n = m
  · subst hnm
    clear hn hn2
    go_enter Tryz.func51, Tryz.ntmps51
    go_wp2_with fail
    go_loopw [13] (fun i wr => ∃ k : Nat, k ≤ n ∧ i = .int .i64 k ∧ Hid (l.take k = l2.take k) ∧ Drn w wr) (fun i _ => n - (intOf i).toNat)
    case atStart => exact ⟨0, Nat.zero_le _, rfl, rfl, Drn.refl _⟩
    case round =>
      obtain ⟨k, hk, rfl, hA, hD⟩ := hrel
      by_cases hlt : k < n
      · obtain ⟨x, hx⟩ : ∃ x, l[k]? = some x := ⟨_, List.getElem?_eq_getElem (show k < l.length by have := HN.out; omega)⟩
        obtain ⟨y, hy⟩ : ∃ y, l2[k]? = some y := ⟨_, List.getElem?_eq_getElem (show k < l2.length by have := HN2.out; omega)⟩
        obtain ⟨ad, rfl, _, hc⟩ := (hr.keep (hD.below B) (Nat.le_refl _)) k x hx
        obtain ⟨ad2, rfl, _, hc2⟩ := (hr2.keep (hD.below C) (Nat.le_refl _)) k y hy
        have i1 : (0 : Int) ≤ (k : Int) := by omega
        have i2 : (k : Int) < (n : Int) := by omega
        have HX := Lib.hid hx
        have HY := Lib.hid hy
        clear hx hy
        obtain ⟨c0, c1, c2, c3, c4, c5, c6, c7, c8, c9⟩ := wr_cells hc
        obtain ⟨d0, d1, d2, d3, d4, d5, d6, d7, d8, d9⟩ := wr_cells hc2
        clear hc hc2
        by_cases hxy : x = y
        · subst hxy
          have he := fun W => wr_eq x W
          have HA2 : Hid (l.take (k + 1) = l2.take (k + 1)) := by
            show _ = _
            rw [List.take_add_one, List.take_add_one, HX.out, HY.out, hA.out]
          clear hA
          go_wp2_with fail
          go_quiet (fail)
          go_wp2_with fail
          go_roundw
          case rel => exact ⟨k + 1, by omega, by go_num, HA2, hD.draws _⟩
          case measure => simp [intOf]; omega
        · have he := fun W => wr_neq hxy W
          have R := Lib.hid (sameW_no (l := l) (l2 := l2) fun e => by
            have h1 := HX.out
            rw [e, HY.out] at h1
            injection h1 with h1
            exact hxy h1.symm)
          clear hA hxy
          go_wp2_with fail
          go_quiet (fail)
          go_wp2_with fail
          go_ret
          exact ⟨ret_bool R.out.symm, hD.draws _⟩
      · have hq : ¬ (k : Int) < (n : Int) := by omega
        have R : Hid (sameW l l2 = true) := sameW_yes (by
          have h := hA.out
          rw [List.take_of_length_le (by have := HN.out; omega), List.take_of_length_le (by have := HN2.out; omega)] at h
          exact h)
        clear hA
        go_wp2_with fail
        go_ret
        exact ⟨ret_bool R.out.symm, hD⟩
  · have e0 : ((n : Int) != (m : Int)) = true := by rw [bne_iff_ne]; omega
    have R := Lib.hid (sameW_no (l := l) (l2 := l2) (fun e => hnm (by rw [← HN.out, ← HN2.out, e])))
    clear hnm hn hn2
    go_enter Tryz.func51, Tryz.ntmps51
    go_wp2_with fail
    go_ret
    exact ⟨ret_bool R.out.symm, Drn.refl _⟩
end Go.Proofs.YtpjleeeligahaaaGreatDoor

namespace Go.Proofs.YtpjleeeligahaaaGreatDoor
open Go.RowKit

def valOf (st : Rest) : (Int × Int × List UInt8) × Rest := match st with
  | none => ((0, 0, []), none)
  | some b => if (takeValB b).2 = 0 then ((0, 0, []), none) else ((takeValB b).1, some (b.drop (takeValB b).2))
abbrev wrNo : Wr := ⟨0, 0, 0, ⟨#[]⟩, 0, 0, ⟨#[]⟩, 0, 0, ⟨#[]⟩⟩
noncomputable def wrOf (st : Rest) : Wr × Rest := match st with
  | none => (wrNo, none)
  | some b => if (takeWrB b).2 = 0 then (wrNo, none) else ((takeWrB b).1, some (b.drop (takeWrB b).2))
noncomputable def wrsOf (st : Rest) (most : Nat) : List Wr × Rest := match st with
  | none => ([], none)
  | some b => if (takeWrsB b most).2 = 0 then ([], none) else ((takeWrsB b most).1, some (b.drop (takeWrsB b most).2))
end Go.Proofs.YtpjleeeligahaaaGreatDoor

namespace Go.Proofs.YtpjleeeligahaaaGreatDoor

/-- A number of at most less. -/
theorem num_most (b : List UInt8) {m M : Nat} (h : m ≤ M) : takeNum b m = if (takeNum b M).2 = 0 then (0, 0) else if (takeNum b M).1 ≤ m then takeNum b M else (0, 0) := by
  cases b with
  | nil => rfl
  | cons c t =>
    rw [takeNum_cons, takeNum_cons]
    by_cases hc : 8 < c.toNat ∨ t.length < c.toNat ∨ (0 < c.toNat ∧ t.head? = some 0)
    · simp only [if_pos hc]
      rfl
    · simp only [if_neg hc]
      by_cases h1 : M < beV (t.take c.toNat)
      · have h2 : m < beV (t.take c.toNat) := by omega
        simp [h1, h2]
      · by_cases h2 : m < beV (t.take c.toNat)
        · have h3 : ¬ beV (t.take c.toNat) ≤ m := by omega
          simp [h1, h2, h3]
        · have h3 : beV (t.take c.toNat) ≤ m := by omega
          simp [h1, h2, h3]
/-- .. as a reader has it. -/
theorem numOf_most (st : Rest) {m M : Nat} (h : m ≤ M) : numOf st m = if (numOf st M).1 ≤ m then numOf st M else (0, none) := by
  cases st with
  | none => exact (if_pos (Nat.zero_le m)).symm
  | some b =>
    unfold numOf
    dsimp only
    rw [num_most b h]
    by_cases h0 : (takeNum b M).2 = 0
    · simp [h0]
    · by_cases h1 : (takeNum b M).1 ≤ m
      · simp [h0, h1]
      · simp [h0, h1]
theorem numOf_none {st : Rest} {m : Nat} (h : (numOf st m).2 = none) : (numOf st m).1 = 0 := by
  cases st with
  | none => rfl
  | some b =>
    revert h
    unfold numOf
    dsimp only
    by_cases h0 : (takeNum b m).2 = 0
    · simp [h0]
    · simp [h0]

abbrev valZ : Int × Int × List UInt8 := (0, 0, [])
/-- What a reader takes of a value, step by step. -/
def valM (st : Rest) : (Int × Int × List UInt8) × Rest :=
  if (numOf st 9223372036854775807).1 = 1 then (soundM valZ (intOfR (numOf st 9223372036854775807).2).2 (1, (intOfR (numOf st 9223372036854775807).2).1, []), (intOfR (numOf st 9223372036854775807).2).2)
  else if (numOf st 9223372036854775807).1 = 2 then (soundM valZ (textOf (numOf st 9223372036854775807).2 40).2 (2, 0, (textOf (numOf st 9223372036854775807).2 40).1), (textOf (numOf st 9223372036854775807).2 40).2)
  else (valZ, mustM (decide ((numOf st 9223372036854775807).1 = 0)) (numOf st 9223372036854775807).2)
theorem val_is (st : Rest) : valM st = valOf st := by
  cases st with
  | none => rfl
  | some b =>
    have hm := numOf_most (some b) (show 2 ≤ 9223372036854775807 by omega)
    have hv : valOf (some b) = if (takeValC (takeNum b 2).1 (takeNum b 2).2 b).2 = 0 then (valZ, none) else ((takeValC (takeNum b 2).1 (takeNum b 2).2 b).1, some (b.drop (takeValC (takeNum b 2).1 (takeNum b 2).2 b).2)) := rfl
    have hn : numOf (some b) 2 = if (takeNum b 2).2 = 0 then (0, none) else ((takeNum b 2).1, some (b.drop (takeNum b 2).2)) := rfl
    rw [hn] at hm
    rw [hv]
    unfold valM
    generalize numOf (some b) 9223372036854775807 = p at hm ⊢
    generalize takeNum b 2 = T at hm ⊢
    clear hv hn
    obtain ⟨k, st1⟩ := p
    obtain ⟨v, q⟩ := T
    dsimp only at hm ⊢
    by_cases hk : k ≤ 2
    · rw [if_pos hk] at hm
      by_cases hq : q = 0
      · rw [if_pos hq] at hm
        injection hm with h1 h2
        subst h1 h2 hq
        simp [takeValC, mustM_none]
      · rw [if_neg hq] at hm
        injection hm with h1 h2
        subst h1 h2
        have hk3 : v = 0 ∨ v = 1 ∨ v = 2 := by omega
        rcases hk3 with rfl | rfl | rfl
        · simp [takeValC, mustM, hq]
        · by_cases hi : (takeIntB (b.drop q)).2 = 0
          · simp [takeValC, hq, intOfR, soundM, hi]
          · simp [takeValC, hq, intOfR, soundM, hi, List.drop_drop]
        · by_cases hi : (takeTextB (b.drop q) 40).2 = 0
          · simp [takeValC, hq, textOf, soundM, hi]
          · simp [takeValC, hq, textOf, soundM, hi, List.drop_drop]
    · rw [if_neg hk] at hm
      by_cases hq : q = 0
      · subst hq
        have h0 : ¬ k = 0 := by omega
        have h1 : ¬ k = 1 := by omega
        have h2 : ¬ k = 2 := by omega
        simp [takeValC, mustM, h0, h1, h2]
      · rw [if_neg hq] at hm
        injection hm with _ h2
        cases h2
end Go.Proofs.YtpjleeeligahaaaGreatDoor
