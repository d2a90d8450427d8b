/-
  WHAT IS PROVED: the document's taking of numbers, ints, texts and flags from bytes (spinneyref05), for all bytes. Conditions: those typed in each theorem. · package pack's reader: Number, Int, count, Text, Flag, small: what they answer and leave, as the chapter says. Conditions: those typed in each theorem. · package pack's reader: count, Text, Flag, small: what they answer and leave, as the chapter says. Conditions: those typed in each theorem. · the document's bytes of good writes, of lists of them (spinneyref05.Writes). Conditions: those typed in each theorem. · a slice of bytes cut off at its front, at its end, at both, as one word (own work); over any program that bears the types named. · the document's taking of ints, texts and flags from bytes (spinneyref05), for all bytes. Conditions: those typed in each theorem. · the document's taking of values from bytes (spinneyref05.TakeValue), for all bytes. Conditions: those typed in the theorem.
-/
import Derived.Test.YtnlnbgcmmlpniaaGreatDoorM1
import Derived.Test.YtnlnbgcmmlpniaaGreatDoorM2
import Derived.Laws.BitsAllLaws
import Derived.Test.YtnlnbgcmmlpniaaGreatDoorM0
namespace Go.Proofs.YtnlnbgcmmlpniaaGreatDoor
open Go.RowKit

theorem wrap_be {v n : Nat} (h : v * 256 + n < 18446744073709551616) : IntKind.u64.wrap (IntKind.u64.wrap ((v : Int) * 256) + IntKind.u64.wrap (n : Int)) = ((v * 256 + n : Nat) : Int) := by
  simp only [IntKind.wrap_u64]
  omega
theorem beV_take {t : List UInt8} {j : Nat} {x : UInt8} (h : t[j]? = some x) : beV (t.take (j + 1)) = beV (t.take j) * 256 + x.toNat := by
  have hj := (List.getElem?_eq_some_iff.1 h).1
  rw [List.take_succ_eq_append_getElem hj, beV_snoc]
  rw [List.getElem?_eq_getElem hj] at h
  injection h with h
  rw [h]
theorem beV_take_lt (t : List UInt8) (j : Nat) (h : j ≤ 8) : beV (t.take j) < 18446744073709551616 := by
  have h1 := beV_lt (t.take j)
  have h2 : (t.take j).length ≤ 8 := by rw [List.length_take]; omega
  have h3 : 256 ^ (t.take j).length ≤ 256 ^ 8 := Nat.pow_le_pow_right (by omega) h2
  rw [pow_eight] at h3
  omega
theorem RdB.cells {B : Nat} {W : World} {ad : Addr} {l : List UInt8} (h : RdB B W (some ad) l) {k : Nat} {x : UInt8} (hx : l[k]? = some x) : W.cell? (ad.add k) = some (.int .u8 (x.toNat : Int)) := by
  obtain ⟨a2, e, _, hc⟩ := h k x hx
  injection e with e
  subst e
  exact hc
theorem add_one_at (a : Addr) : a.add 1 = ⟨a.block, a.off + 1, none⟩ := rfl
/-- The pair that TakeNumber answers. -/
def TakeP (r : Nat × Nat) (w : World) (e : Ending) (w' : World) : Prop := e = .returned (.tuple #[.int .u64 (r.1 : Nat), .int .i64 (r.2 : Nat)]) ∧ Drn w w'

set_option maxRecDepth 100000 in
set_option maxHeartbeats 4000000 in
theorem refTakeNumber_any {B : Nat} (A : Option Addr) (n c : Nat) (l : List UInt8) (most : Nat) (w : World) (hn : l.length = n) (hr : RdB B w A l) (hm : n ≤ 1000000) (_hmost : most < 18446744073709551616) :
    Calls Tryz.prog 63 #[.slice A n c, .int .u64 most] w fun e w' => TakeP (takeNum l most) w e w' := by
  cases l with
  | nil =>
    have n0 : n = 0 := by rw [← hn]; rfl
    subst n0
    clear hn hm
    go_enter Tryz.func63, Tryz.ntmps63
    go_wp2_with fail
    go_ret2
    exact ⟨rfl, Drn.refl _⟩
  | cons c0 t =>
    obtain ⟨ad, rfl, _, hc0⟩ := hr 0 c0 rfl
    rw [show ad.add 0 = ad from rfl] at hc0
    have e0 : ((n : Int) == 0) = false := by
      rw [beq_eq_false_iff_ne]
      rw [List.length_cons] at hn
      omega
    have i0 : (0 : Int) < (n : Int) := by rw [List.length_cons] at hn; omega
    have hc := c0.toNat_lt
    rw [List.length_cons] at hn
    by_cases h8 : 8 < c0.toNat
    · have g8 : (8 : Int) < (c0.toNat : Int) := by omega
      have R : Hid (takeNum (c0 :: t) most = (0, 0)) := by show _ = _; rw [takeNum_cons, if_pos (Or.inl h8)]
      clear hn hm hc
      go_enter Tryz.func63, Tryz.ntmps63
      go_wp2_with fail
      go_ret2
      rw [R.out]
      exact ⟨rfl, Drn.refl _⟩
    · have g8 : (c0.toNat : Int) ≤ 8 := by omega
      have g1 : (0 : Int) ≤ (c0.toNat : Int) := by omega
      by_cases hl : t.length < c0.toNat
      · have gl : (n : Int) - 1 < (c0.toNat : Int) := by omega
        have R : Hid (takeNum (c0 :: t) most = (0, 0)) := by show _ = _; rw [takeNum_cons, if_pos (Or.inr (Or.inl hl))]
        have nb : (n : Int) ≤ 1000000 := by omega
        clear hn hm hc
        go_enter Tryz.func63, Tryz.ntmps63
        go_wp2_with fail
        go_ret2
        rw [R.out]
        exact ⟨rfl, Drn.refl _⟩
      · have gl : (c0.toNat : Int) ≤ (n : Int) - 1 := by omega
        have nb : (n : Int) ≤ 1000000 := by omega
        by_cases hz : 0 < c0.toNat ∧ t.head? = some 0
        · have hc1 := hr.cells (k := 1) (x := 0) (by
            rw [List.getElem?_cons_succ]
            rw [List.head?_eq_getElem?] at hz
            exact hz.2)
          have gz : (0 : Int) < (c0.toNat : Int) := by omega
          have gzN : 0 < c0.toNat := by omega
          have gn : (1 : Int) < (n : Int) := by omega
          have gnN : 1 < n := by omega
          have R : Hid (takeNum (c0 :: t) most = (0, 0)) := by show _ = _; rw [takeNum_cons, if_pos (Or.inr (Or.inr hz))]
          rw [show (((0 : UInt8).toNat : Nat) : Int) = 0 from rfl, add_one_at] at hc1
          clear hn hm hc hz
          go_enter Tryz.func63, Tryz.ntmps63
          go_wp2_with fail
          go_ret2
          rw [R.out]
          exact ⟨rfl, Drn.refl _⟩
        · have HG : Hid (¬ (8 < c0.toNat ∨ t.length < c0.toNat ∨ (0 < c0.toNat ∧ t.head? = some 0))) := by
            rintro (h | h | h)
            · exact h8 h
            · exact hl h
            · exact hz h
          by_cases hc00 : c0.toNat = 0
          · have gz : decide (0 < c0.toNat) = false := by simp; omega
            have HC := Lib.hid hc00
            clear hz hc00
            go_enter Tryz.func63, Tryz.ntmps63
            go_wp2_with fail
            go_loop [6, 7] (fun u i => ∃ j v : Nat, 1 ≤ j ∧ j ≤ c0.toNat + 1 ∧ u = .int .u64 v ∧ i = .int .i64 j ∧ Hid (v = beV (t.take (j - 1)))) (fun _ i => c0.toNat + 1 - (intOf i).toNat)
            case atStart => exact ⟨1, 0, Nat.le_refl _, by omega, rfl, rfl, rfl⟩
            case round =>
              obtain ⟨j, v, hj1, hj2, rfl, rfl, hV⟩ := hrel
              by_cases hj : j ≤ c0.toNat
              · have hjt : j - 1 < t.length := by omega
                have hx := List.getElem?_eq_getElem hjt
                generalize t[j - 1] = x at hx
                have hcx := hr.cells (k := j) (x := x) (by
                  have e : j = (j - 1) + 1 := by omega
                  rw [e, List.getElem?_cons_succ]
                  exact hx)
                have q1 : (0 : Int) ≤ (j : Int) := by omega
                have q2 : (j : Int) < (n : Int) := by omega
                have q3 : (j : Int) ≤ (c0.toNat : Int) := by omega
                have hvx : beV (t.take j) = v * 256 + x.toNat := by
                  have h := beV_take hx
                  rw [show j - 1 + 1 = j by omega] at h
                  rw [h, hV.out]
                have HW := Lib.hid (wrap_be (v := v) (n := x.toNat) (by rw [← hvx]; exact beV_take_lt t j (by omega)))
                have HV2 : Hid (v * 256 + x.toNat = beV (t.take (j + 1 - 1))) := hvx.symm
                clear hx hvx hV hjt
                go_wp2_with fail
                go_round
                case rel => exact ⟨j + 1, v * 256 + x.toNat, by omega, by omega, by rw [HW.out], by go_num, HV2⟩
                case measure => simp [intOf]; omega
              · have q3 : ¬ (j : Int) ≤ (c0.toNat : Int) := by omega
                have hv : v = beV (t.take c0.toNat) := by
                  rw [hV.out, show j - 1 = c0.toNat by omega]
                have HV := Lib.hid hv
                clear hv hV
                by_cases hmv : most < v
                · have g : (most : Int) < (v : Int) := by omega
                  have R : Hid (takeNum (c0 :: t) most = (0, 0)) := by
                    show _ = _
                    rw [takeNum_cons, if_neg HG.out, if_pos (by rw [← HV.out]; exact hmv)]
                  go_wp2_with fail
                  go_ret2
                  rw [R.out]
                  exact ⟨rfl, Drn.refl _⟩
                · have g : (v : Int) ≤ (most : Int) := by omega
                  have R : Hid (takeNum (c0 :: t) most = (v, 1 + c0.toNat)) := by
                    show _ = _
                    rw [takeNum_cons, if_neg HG.out, if_neg (by rw [← HV.out]; exact hmv), ← HV.out]
                  have w1 : IntKind.i64.wrap (1 + (c0.toNat : Int)) = 1 + (c0.toNat : Int) := IntWalk.i64_in _ (by omega)
                  clear hmv hj hj1 hj2
                  go_wp2_with fail
                  go_quiet (fail)
                  go_wp2_with fail
                  go_ret2
                  rw [R.out]
                  exact ⟨rfl, (Drn.refl _).draws _⟩
          · have gz : (0 : Int) < (c0.toNat : Int) := by omega
            have gzN : 0 < c0.toNat := by omega
            have gn : (1 : Int) < (n : Int) := by omega
            have gnN : 1 < n := by omega
            have ht0 : 0 < t.length := by omega
            have hx1 := List.getElem?_eq_getElem ht0
            generalize t[0] = x1 at hx1
            have hc1 := hr.cells (k := 1) (x := x1) (by rw [List.getElem?_cons_succ]; exact hx1)
            rw [add_one_at] at hc1
            have gx : ((x1.toNat : Int) == 0) = false := by
              rw [beq_eq_false_iff_ne]
              intro e
              refine hz ⟨by omega, ?_⟩
              rw [List.head?_eq_getElem?, hx1]
              congr 1
              exact UInt8.toNat_inj.1 (by show _ = 0; omega)
            clear hz hx1 ht0
            go_enter Tryz.func63, Tryz.ntmps63
            go_wp2_with fail
            go_loop [6, 7] (fun u i => ∃ j v : Nat, 1 ≤ j ∧ j ≤ c0.toNat + 1 ∧ u = .int .u64 v ∧ i = .int .i64 j ∧ Hid (v = beV (t.take (j - 1)))) (fun _ i => c0.toNat + 1 - (intOf i).toNat)
            case atStart => exact ⟨1, 0, Nat.le_refl _, by omega, rfl, rfl, rfl⟩
            case round =>
              obtain ⟨j, v, hj1, hj2, rfl, rfl, hV⟩ := hrel
              by_cases hj : j ≤ c0.toNat
              · have hjt : j - 1 < t.length := by omega
                have hx := List.getElem?_eq_getElem hjt
                generalize t[j - 1] = x at hx
                have hcx := hr.cells (k := j) (x := x) (by
                  have e : j = (j - 1) + 1 := by omega
                  rw [e, List.getElem?_cons_succ]
                  exact hx)
                have q1 : (0 : Int) ≤ (j : Int) := by omega
                have q2 : (j : Int) < (n : Int) := by omega
                have q3 : (j : Int) ≤ (c0.toNat : Int) := by omega
                have hvx : beV (t.take j) = v * 256 + x.toNat := by
                  have h := beV_take hx
                  rw [show j - 1 + 1 = j by omega] at h
                  rw [h, hV.out]
                have HW := Lib.hid (wrap_be (v := v) (n := x.toNat) (by rw [← hvx]; exact beV_take_lt t j (by omega)))
                have HV2 : Hid (v * 256 + x.toNat = beV (t.take (j + 1 - 1))) := hvx.symm
                clear hx hvx hV hjt
                go_wp2_with fail
                go_round
                case rel => exact ⟨j + 1, v * 256 + x.toNat, by omega, by omega, by rw [HW.out], by go_num, HV2⟩
                case measure => simp [intOf]; omega
              · have q3 : ¬ (j : Int) ≤ (c0.toNat : Int) := by omega
                have hv : v = beV (t.take c0.toNat) := by
                  rw [hV.out, show j - 1 = c0.toNat by omega]
                have HV := Lib.hid hv
                clear hv hV
                by_cases hmv : most < v
                · have g : (most : Int) < (v : Int) := by omega
                  have R : Hid (takeNum (c0 :: t) most = (0, 0)) := by
                    show _ = _
                    rw [takeNum_cons, if_neg HG.out, if_pos (by rw [← HV.out]; exact hmv)]
                  go_wp2_with fail
                  go_ret2
                  rw [R.out]
                  exact ⟨rfl, Drn.refl _⟩
                · have g : (v : Int) ≤ (most : Int) := by omega
                  have R : Hid (takeNum (c0 :: t) most = (v, 1 + c0.toNat)) := by
                    show _ = _
                    rw [takeNum_cons, if_neg HG.out, if_neg (by rw [← HV.out]; exact hmv), ← HV.out]
                  have w1 : IntKind.i64.wrap (1 + (c0.toNat : Int)) = 1 + (c0.toNat : Int) := IntWalk.i64_in _ (by omega)
                  clear hmv hj hj1 hj2
                  go_wp2_with fail
                  go_quiet (fail)
                  go_wp2_with fail
                  go_ret2
                  rw [R.out]
                  exact ⟨rfl, (Drn.refl _).draws _⟩
end Go.Proofs.YtnlnbgcmmlpniaaGreatDoor

namespace Go.Proofs.YtnlnbgcmmlpniaaGreatDoor
open Go.RowKit

set_option maxRecDepth 100000 in
theorem sound64_any (S : Addr) (g : Nat) (st : Rest) (x : Nat) (w : World) (hR : RdrP S w g st) :
    Calls Tryz.prog 90 #[.pointer (some ⟨g, 0, none⟩), .int .u64 x] w fun e w' => e = .returned (.int .u64 ((soundM 0 st x : Nat) : Int)) ∧ w' = w := by
  cases st with
  | none =>
    obtain ⟨e1, he1, hb⟩ := hR
    obtain ⟨t1, v1, rfl⟩ := errP_nil he1
    have c1 := hb.cell 1
    go_enter Tryz.func90, Tryz.ntmps90
    go_wp2_with fail
    go_ret
    exact ⟨rfl, rfl⟩
  | some b =>
    obtain ⟨hl, s, hs, hb⟩ := hR
    have c1 := hb.cell 1
    go_enter Tryz.func90, Tryz.ntmps90
    go_wp2_with fail
    go_ret
    exact ⟨rfl, rfl⟩

theorem ba_get (s : ByteArray) (k : Nat) (h : k < s.size) : s.data.toList[k]? = some s[k] := by
  rw [List.getElem?_eq_getElem (by simpa using h)]
  rfl
theorem byte_ne (c : UInt8) : ((c.toNat : Int) != 0) = (c != 0) := by
  rw [Bool.eq_iff_iff]
  simp only [bne_iff_ne, ne_eq]
  constructor
  · intro h e
    subst e
    exact h rfl
  · intro h e
    exact h (UInt8.toNat_inj.1 (by simpa using e))
set_option maxRecDepth 100000 in
theorem or_byte (a c : Nat) (ha : a * 256 + c < 18446744073709551616) (hc : c < 256) : bits .or .u64 (IntKind.u64.wrap ((a : Int) * 256)) (IntKind.u64.wrap (c : Int)) = ((a * 256 + c : Nat) : Int) := by
  have e : IntKind.u64.wrap ((a : Int) * 256) = ((a * 256 : Nat) : Int) := by
    rw [IntKind.wrap_u64]
    omega
  have e2 : IntKind.u64.wrap (c : Int) = (c : Int) := by
    rw [IntKind.wrap_u64]
    omega
  rw [e, e2, u64_or_nat _ _ (by omega) (by omega)]
  have h := Nat.shiftLeft_add_eq_or_of_lt (i := 8) (b := c) hc a
  simp only [Nat.shiftLeft_eq, Nat.reducePow] at h
  rw [h]
theorem grown_chain {a b c : World} {g : Nat} (h : a.grownBy b (some g)) (k : b.grownBy c (some g)) : a.grownBy c (some g) := h.trans k

set_option maxRecDepth 100000 in
set_option maxHeartbeats 400000 in
theorem rNumber_any (S : Addr) (g : Nat) (st : Rest) (most : Nat) (w : World) (hL : LaidS S w) (hR : RdrP S w g st) (hmost : most < 18446744073709551616) :
    Calls Tryz.prog 46 #[.pointer (some ⟨g, 0, none⟩), .int .u64 most] w fun e w' => e = .returned (.int .u64 ((numOf st most).1 : Nat)) ∧ RdrP S w' g (numOf st most).2 ∧ w.grownBy w' (some g) := by
  have hnum : numOf st most = (soundM 0 (mustM (decide (beV (digM st).1 ≤ most)) (mustM (headOk (digM st).1) (digM st).2)) (beV (digM st).1), mustM (decide (beV (digM st).1 ≤ most)) (mustM (headOk (digM st).1) (digM st).2)) := (number_is st most).symm
  rw [hnum]
  clear hnum
  have hlen := digM_len st
  have hlt := digM_lt st
  have hD : digM st = takeM (mustM (decide ((nextM st).1.toNat ≤ 8)) (nextM st).2) (nextM st).1.toNat := rfl
  have hN := next_any S g st w hL hR
  have HL := Lib.hid (fun W (hg : w.grownBy W (some g)) => hL.grown hR hg)
  generalize digM st = D at hlen hlt hD ⊢
  generalize nextM st = p at hD hN
  obtain ⟨c0, st1⟩ := p
  obtain ⟨d, st3⟩ := D
  dsimp only at hlen hlt hD hN ⊢
  have hc0 := c0.toNat_lt
  have HM := Lib.hid hmost
  have HD := Lib.hid hD
  clear hD hmost hL hR
  go_enter Tryz.func46, Tryz.ntmps46
  go_wp2_with fail
  refine hN.mono ?_
  rintro e w1 ⟨rfl, hR1, hg1⟩
  have hd : decide ((c0.toNat : Int) ≤ 8) = decide (c0.toNat ≤ 8) := decide_eq_decide.2 (by omega)
  go_wp2_with fail
  refine (must_any S g st1 _ _ w1 hR1).mono ?_
  rintro e w2 ⟨rfl, hR2, hg2⟩
  have hG2 := hg1.trans hg2
  have HT := Lib.hid (take_any S g _ c0.toNat w2 (HL.out w2 hG2) hR2 (by omega))
  clear hd hN hg1 hg2 hR1 hR2
  generalize (mustM (decide (c0.toNat ≤ 8)) st1) = st2 at HT HD
  go_wp2_with fail
  refine HT.out.mono ?_
  rintro e w3 ⟨⟨s, rfl, hs⟩, hR3, hg3⟩
  rw [← HD.out] at hs hR3
  dsimp only at hs hR3
  have hG3 := hG2.trans hg3
  clear hG2 hg3 HT HD hc0
  have hsz : s.size = d.length := by rw [← hs]; exact Array.length_toList.symm
  have hstep : ∀ K : Act → World → Prop, True := fun _ => trivial
  clear hstep
  have hcase : (d.isEmpty = true ∧ s.toList.isEmpty = true ∧ headOk d = true) ∨ (∃ h : 0 < s.size, s.toList.isEmpty = false ∧ (((s[0]'h).toNat : Int) != 0) = headOk d) := by
    cases d with
    | nil => exact .inl ⟨rfl, by rw [ByteArray.toList_eq, hs]; rfl, rfl⟩
    | cons c r =>
      have h : 0 < s.size := by rw [hsz]; simp
      refine .inr ⟨h, by rw [ByteArray.toList_eq, hs]; rfl, ?_⟩
      have hg := ba_get s 0 h
      rw [hs] at hg
      have hc : c = s[0] := by injection hg
      rw [← hc]
      exact byte_ne c
  have HS := Lib.hid hs
  have HZ := Lib.hid hsz
  have hs64 : (s.size : Int) ≤ 8 := by omega
  clear hs hsz
  rcases hcase with ⟨-, hE, hO⟩ | ⟨h0, hE, hO⟩
  all_goals
    go_wp2_with fail
    refine (must_any S g _ _ _ w3 hR3).mono ?_
    rintro e w4 ⟨rfl, hR4, hg4⟩
    have hG4 := hG3.trans hg4
    clear hG3 hg4 hR3
    go_wp2_with fail
    go_loopw [7, 30] (fun t u wr => ∃ j : Nat, j ≤ s.size ∧ t = .int .u64 (beV (d.take j) : Nat) ∧ u = .int .i64 j ∧ wr = w4) (fun _ u _ => s.size - (intOf u).toNat)
    case atStart => exact ⟨0, Nat.zero_le _, by simp [beV_nil], rfl, rfl⟩
    case round =>
      obtain ⟨j, hj, rfl, rfl, rfl⟩ := hrel
      by_cases hlt2 : j < s.size
      · have i1 : (0 : Int) ≤ (j : Int) := by omega
        have i2 : (j : Int) < (s.size : Int) := by omega
        have hg : d[j]? = some s[j] := by rw [← HS.out]; exact ba_get s j hlt2
        have hb := beV_take hg
        have hbl := beV_take_lt d (j + 1) (by omega)
        have HV := Lib.hid (or_byte (beV (d.take j)) s[j].toNat (by rw [← hb]; exact hbl) s[j].toNat_lt)
        rw [← hb] at HV
        clear hg hb hbl
        go_wp2_with fail
        exact ⟨⟨j + 1, by omega, by rw [HV.out], by go_num, trivial⟩, by simp [intOf]; omega⟩
      · have i2 : ¬ (j : Int) < (s.size : Int) := by omega
        have e : d.take j = d := List.take_of_length_le (by have := HZ.out; omega)
        rw [e]
        have hm : decide ((beV d : Int) ≤ (most : Int)) = decide (beV d ≤ most) := decide_eq_decide.2 (by omega)
        go_wp2_with fail
        refine (must_any S g _ _ _ _ hR4).mono ?_
        rintro e w5 ⟨rfl, hR5, hg5⟩
        go_wp2_with fail
        refine (sound64_any S g _ _ _ hR5).mono ?_
        rintro e w6 ⟨rfl, rfl⟩
        go_wp2_with fail
        go_ret
        first
          | exact ⟨rfl, hR5, hG4.trans hg5⟩
          | (rw [hO]; exact ⟨rfl, hR5, hG4.trans hg5⟩)

theorem numOf_lt (st : Rest) (most : Nat) : (numOf st most).1 ≤ most ∧ (numOf st most).1 < 18446744073709551616 := by
  cases st with
  | none => exact ⟨Nat.zero_le _, Nat.lt_of_lt_of_le Nat.zero_lt_one (by omega)⟩
  | some b =>
    unfold numOf
    dsimp only
    by_cases h : (takeNum b most).2 = 0
    · rw [if_pos h]
      exact ⟨Nat.zero_le _, Nat.lt_of_lt_of_le Nat.zero_lt_one (by omega)⟩
    · rw [if_neg h]
      have := num_take (show takeNum b most = ((takeNum b most).1, (takeNum b most).2) from rfl) h
      exact ⟨this.1, this.2.1⟩

set_option maxRecDepth 100000 in
/-- The int that stands as a number. -/
theorem unfolded_any (u : Nat) (w : World) (hu : u < 18446744073709551616) :
    Calls Tryz.prog 136 #[.int .u64 u] w fun e w' => e = .returned (.int .i64 (unzig u)) ∧ w' = w := by
  have hn := not_any ((u : Int) / 2) (by omega) (by omega)
  have HN := Lib.hid hn
  by_cases h : u % 2 = 1
  · have g0 : (u : Int) % 2 = 1 := by omega
    have hz : unzig u = -1 - ((u / 2 : Nat) : Int) := if_pos h
    rw [hz]
    clear hn hz
    go_enter Tryz.func136, Tryz.ntmps136
    go_wp2_with fail
    go_ret
    refine ⟨ret_i64 ?_, rfl⟩
    rw [HN.out]
  · have g0 : (u : Int) % 2 = 0 := by omega
    have hz : unzig u = ((u / 2 : Nat) : Int) := if_neg h
    rw [hz]
    clear hn hz
    go_enter Tryz.func136, Tryz.ntmps136
    go_wp2_with fail
    go_ret
    refine ⟨ret_i64 ?_, rfl⟩
    omega

set_option maxRecDepth 100000 in
theorem rInt_any (S : Addr) (g : Nat) (st : Rest) (w : World) (hL : LaidS S w) (hR : RdrP S w g st) :
    Calls Tryz.prog 109 #[.pointer (some ⟨g, 0, none⟩)] w fun e w' => e = .returned (.int .i64 (intOfR st).1) ∧ RdrP S w' g (intOfR st).2 ∧ w.grownBy w' (some g) := by
  have e : intOfR st = (unzig (numOf st 18446744073709551615).1, (numOf st 18446744073709551615).2) := by
    cases st with
    | none => rfl
    | some b =>
      unfold intOfR numOf takeIntB
      dsimp only
      by_cases h : (takeNum b 18446744073709551615).2 = 0
      · rw [if_pos h, if_pos h]
        rfl
      · rw [if_neg h, if_neg h]
  rw [e]
  have hN := rNumber_any S g st 18446744073709551615 w hL hR (by omega)
  have hlt := (numOf_lt st 18446744073709551615).2
  generalize numOf st 18446744073709551615 = p at hN hlt
  have HU := Lib.hid (fun W => unfolded_any p.1 W hlt)
  clear hlt e
  go_enter Tryz.func109, Tryz.ntmps109
  go_wp2_with fail
  refine hN.mono ?_
  rintro e w1 ⟨rfl, hR1, hg1⟩
  go_wp2_with fail
  refine (HU.out w1).mono ?_
  rintro e w2 ⟨rfl, rfl⟩
  go_wp2_with fail
  go_ret
  exact ⟨rfl, hR1, hg1⟩
end Go.Proofs.YtnlnbgcmmlpniaaGreatDoor

namespace Go.Proofs.YtnlnbgcmmlpniaaGreatDoor
open Go.RowKit

theorem text_is (st : Rest) (most : Nat) : takeM (numOf st most).2 (numOf st most).1 = textOf st most := by
  cases st with
  | none => rfl
  | some b =>
    unfold numOf textOf takeTextB
    dsimp only
    by_cases h : (takeNum b most).2 = 0
    · simp [h, takeM]
    · rw [if_neg h]
      have hk := num_take (show takeNum b most = ((takeNum b most).1, (takeNum b most).2) from rfl) h
      by_cases hl : (takeNum b most).1 ≤ b.length - (takeNum b most).2
      · have hl' : (takeNum b most).1 ≤ (b.drop (takeNum b most).2).length := by rw [List.length_drop]; exact hl
        have hn : ¬ b.length - (takeNum b most).2 < (takeNum b most).1 := by omega
        have h0 : ¬ (takeNum b most).2 + (takeNum b most).1 = 0 := by omega
        simp [takeM, h, hl, hn, List.drop_drop]
      · have hn : b.length - (takeNum b most).2 < (takeNum b most).1 := by omega
        simp [takeM, h, hl, hn]
theorem byte_one (c : UInt8) : ((c.toNat : Int) == 1) = (c == 1) := by
  rw [Bool.eq_iff_iff]
  simp only [beq_iff_eq]
  constructor
  · intro h
    exact UInt8.toNat_inj.1 (by show c.toNat = 1; omega)
  · rintro rfl
    rfl
theorem flag_is (st : Rest) : ((((nextM st).1.toNat : Int) == 1), mustM (decide ((nextM st).1.toNat ≤ 1)) (nextM st).2) = flagOf st := by
  cases st with
  | none => rfl
  | some b =>
    cases b with
    | nil => rfl
    | cons c t =>
      show (((c.toNat : Int) == 1), mustM (decide (c.toNat ≤ 1)) (some t)) = _
      rw [byte_one]
      unfold flagOf takeFlagB
      dsimp only
      by_cases h : 1 < c.toNat
      · have h1 : ¬ c.toNat ≤ 1 := by omega
        have h2 : (c == 1) = false := by
          rw [beq_eq_false_iff_ne]
          rintro rfl
          exact absurd h (by decide)
        simp [mustM, h1, h, h2]
      · have h1 : c.toNat ≤ 1 := by omega
        simp [mustM, h1, h]
theorem rclone_any (s : ByteArray) (w : World) (hs : s.size ≤ 281474976710656) :
    Calls Tryz.prog 82 #[.string s] w fun e w' => e = .returned (.string s) ∧ Below w.heap.size w w' := by
  have h := Tryz.stringslite_Clone s w hs
  go_enter Tryz.func82, Tryz.ntmps82
  go_wp2_with fail
  refine h.mono ?_
  rintro e w1 ⟨rfl, hb⟩
  go_wp2_with fail
  go_ret
  exact ⟨rfl, hb⟩

set_option maxRecDepth 100000 in
/-- How many, at most most. -/
theorem count_any (S : Addr) (g : Nat) (st : Rest) (most : Nat) (w : World) (hL : LaidS S w) (hR : RdrP S w g st) (hm : most ≤ 1000000) :
    Calls Tryz.prog 84 #[.pointer (some ⟨g, 0, none⟩), .int .i64 most] w fun e w' => e = .returned (.int .i64 ((numOf st most).1 : Nat)) ∧ RdrP S w' g (numOf st most).2 ∧ w.grownBy w' (some g) := by
  have HL := Lib.hid (fun W (hg : w.grownBy W (some g)) => hL.grown hR hg)
  have hn := (numOf_lt st most).1
  have i0 : (0 : Int) ≤ (most : Int) := by omega
  have hmx : max (most : Int) 0 = (most : Int) := by omega
  have hw1 : IntKind.u64.wrap (most : Int) = (most : Int) := by
    rw [IntKind.wrap_u64]
    omega
  have hw2 : IntKind.i64.wrap ((numOf st most).1 : Int) = ((numOf st most).1 : Int) := by
    rw [IntKind.wrap_i64]
    omega
  go_enter Tryz.func84, Tryz.ntmps84
  go_wp2_with fail
  refine (must_any S g st _ _ w hR).mono ?_
  rintro e w1 ⟨rfl, hR1, hg1⟩
  have hR1' : RdrP S w1 g st := hR1
  go_wp2_with fail
  refine (rNumber_any S g st most w1 (HL.out w1 hg1) hR1' (by omega)).mono ?_
  rintro e w2 ⟨rfl, hR2, hg2⟩
  go_wp2_with fail
  go_ret
  exact ⟨rfl, hR2, hg1.trans hg2⟩

theorem textOf_len (S : Addr) (w : World) (g : Nat) (st : Rest) (most : Nat) (hR : RdrP S w g st) : (textOf st most).1.length ≤ 1000000 := by
  rw [← text_is]
  cases st with
  | none => exact Nat.zero_le _
  | some b =>
    obtain ⟨hl, _⟩ := hR
    have : ∀ (st1 : Rest) (n : Nat), (st1 = none ∨ ∃ k, st1 = some (b.drop k)) → (takeM st1 n).1.length ≤ b.length := by
      rintro st1 n (rfl | ⟨k, rfl⟩)
      · exact Nat.zero_le _
      · unfold takeM
        dsimp only
        by_cases h : n ≤ (b.drop k).length
        · rw [if_pos h, List.length_take, List.length_drop]
          omega
        · rw [if_neg h]
          exact Nat.zero_le _
    refine Nat.le_trans (this _ _ ?_) hl
    unfold numOf
    dsimp only
    by_cases h : (takeNum b most).2 = 0
    · rw [if_pos h]
      exact .inl rfl
    · rw [if_neg h]
      exact .inr ⟨_, rfl⟩

set_option maxRecDepth 100000 in
theorem rText_any (S : Addr) (g : Nat) (st : Rest) (most : Nat) (w : World) (hL : LaidS S w) (hR : RdrP S w g st) (hm : most ≤ 1000000) :
    Calls Tryz.prog 43 #[.pointer (some ⟨g, 0, none⟩), .int .i64 most] w fun e w' => (∃ s : ByteArray, e = .returned (.string s) ∧ s.data.toList = (textOf st most).1) ∧ RdrP S w' g (textOf st most).2 ∧ w.grownBy w' (some g) := by
  have HL := Lib.hid (fun W (hg : w.grownBy W (some g)) => hL.grown hR hg)
  have hsz := textOf_len S w g st most hR
  have hC := count_any S g st most w hL hR hm
  have hn := (numOf_lt st most).1
  rw [← text_is] at hsz ⊢
  generalize numOf st most = p at hC hn hsz ⊢
  clear hL hR
  go_enter Tryz.func43, Tryz.ntmps43
  go_wp2_with fail
  refine hC.mono ?_
  rintro e w1 ⟨rfl, hR1, hg1⟩
  go_wp2_with fail
  refine (take_any S g p.2 p.1 w1 (HL.out w1 hg1) hR1 (by omega)).mono ?_
  rintro e w2 ⟨⟨s, rfl, hs⟩, hR2, hg2⟩
  have hs2 : s.size ≤ 281474976710656 := by
    have : s.size = s.data.toList.length := Array.length_toList.symm
    rw [this, hs]
    omega
  go_wp2_with fail
  refine (rclone_any s w2 hs2).mono ?_
  rintro e w3 ⟨rfl, hb3⟩
  go_wp2_with fail
  go_ret
  exact ⟨⟨s, rfl, hs⟩, hR2.below hb3, (hg1.trans hg2).trans (grown_below hb3 _)⟩

set_option maxRecDepth 100000 in
theorem small_any (S : Addr) (g : Nat) (st : Rest) (w : World) (hL : LaidS S w) (hR : RdrP S w g st) :
    Calls Tryz.prog 99 #[.pointer (some ⟨g, 0, none⟩)] w fun e w' => e = .returned (.int .i64 ((numOf st 9223372036854775807).1 : Nat)) ∧ RdrP S w' g (numOf st 9223372036854775807).2 ∧ w.grownBy w' (some g) := by
  have hN := rNumber_any S g st 9223372036854775807 w hL hR (by omega)
  have hn := (numOf_lt st 9223372036854775807).1
  have hw2 : IntKind.i64.wrap ((numOf st 9223372036854775807).1 : Int) = ((numOf st 9223372036854775807).1 : Int) := by
    rw [IntKind.wrap_i64]
    omega
  generalize numOf st 9223372036854775807 = p at hN hn hw2 ⊢
  have hn2 : (p.1 : Int) ≤ 9223372036854775807 := by omega
  clear hn
  go_enter Tryz.func99, Tryz.ntmps99
  go_wp2_with fail
  refine hN.mono ?_
  rintro e w1 ⟨rfl, hR1, hg1⟩
  go_wp2_with fail
  go_ret
  exact ⟨rfl, hR1, hg1⟩
end Go.Proofs.YtnlnbgcmmlpniaaGreatDoor

namespace Go.Proofs.YtnlnbgcmmlpniaaGreatDoor
open Go.RowKit
attribute [local go_sem ↓] Go.wp_at_zero Go.wp_at_succ

/-- A write's bytes; a list's. -/
def wB (x : Wr) : List UInt8 := wrB x.dev.toNat x.seq.toNat x.K.toNat x.ky.data.toList x.ka x.na x.sa.data.toList x.kb x.nb x.sb.data.toList
def wsB (l : List Wr) : List UInt8 := numB l.length ++ l.flatMap wB
theorem goodB_in {k n : Int} {s : ByteArray} (h : goodB k n s = true) : (k = 0 ∨ k = 1 ∨ k = 2) ∧ s.size ≤ 40 := by
  unfold goodB at h
  rw [decide_eq_true_eq] at h
  omega
theorem good_in {x : Wr} (h : x.good = true) : (1 ≤ x.dev ∧ x.dev ≤ 11) ∧ (1 ≤ x.seq ∧ x.seq ≤ 40) ∧ (1 ≤ x.K ∧ x.K ≤ 4) ∧ x.ky.size ≤ 20 ∧ ((x.ka = 0 ∨ x.ka = 1 ∨ x.ka = 2) ∧ x.sa.size ≤ 40) ∧ ((x.kb = 0 ∨ x.kb = 1 ∨ x.kb = 2) ∧ x.sb.size ≤ 40) := by
  unfold Wr.good wrGoodB idB opB at h
  simp only [Bool.and_eq_true, decide_eq_true_eq] at h
  obtain ⟨h1, ⟨⟨h2, h3⟩, h4⟩, h5⟩ := h
  have h6 := (keyB_all h2).2.2
  have h7 : x.ky.data.toList.length = x.ky.size := Array.length_toList
  refine ⟨by omega, by omega, by omega, by omega, goodB_in h3, goodB_in h4⟩
theorem wB_small {x : Wr} (h : x.good = true) (hf : x.fits) : (wB x).length ≤ 5000000 := by
  obtain ⟨h1, h2, h3, h4, h5, h6⟩ := good_in h
  obtain ⟨_, _, _, f1, f2⟩ := hf
  unfold wB wrB
  simp only [List.length_append]
  have a1 := numB_small (n := x.dev.toNat) (by omega)
  have a2 := numB_small (n := x.seq.toNat) (by omega)
  have a3 := numB_small (n := x.K.toNat) (by omega)
  have a4 := textB_small (s := x.ky) (by omega)
  have a5 := valB_small (s := x.sa) h5.1 f1.1 f1.2 (by omega)
  have a6 := valB_small (s := x.sb) h6.1 f2.1 f2.2 (by omega)
  omega
theorem refPWr_any (x : Wr) (h : x.good = true) (hf : x.fits) (w : World) :
    Calls Tryz.prog 61 #[.agg x.cells] w fun e w' => (∃ (A : Option Addr) (m c : Nat), e = .returned (.slice A m c) ∧ OwnB w.heap.size w' A m c (wB x) ∧ m ≤ 5000000) ∧ Below w.heap.size w w' := by
  obtain ⟨h1, h2, h3, h4, h5, h6⟩ := good_in h
  obtain ⟨_, _, _, f1, f2⟩ := hf
  have hs := wB_small h ⟨by unfold maxLen; omega, by unfold maxLen; omega, by unfold maxLen; omega, f1, f2⟩
  have k := refPWrite_any x.dev.toNat x.seq.toNat x.K.toNat x.ky x.ka x.na x.sa x.kb x.nb x.sb w (by omega) (by omega) (by omega) (by omega) h5.1 f1.1 f1.2 (by omega) h6.1 f2.1 f2.2 (by omega)
  rw [show wrC x.dev.toNat x.seq.toNat x.K.toNat x.ky x.ka x.na x.sa x.kb x.nb x.sb = x.cells by
    show (#[_, _, _, _, _, _, _, _, _, _] : Array Value) = #[_, _, _, _, _, _, _, _, _, _]
    rw [Int.toNat_of_nonneg (by omega), Int.toNat_of_nonneg (by omega), Int.toNat_of_nonneg (by omega)]] at k
  exact k.mono fun _ _ ⟨⟨A, m, c, he, hO⟩, hb⟩ => ⟨⟨A, m, c, he, hO, by have := hO.len; unfold wB at hs; omega⟩, hb⟩

end Go.Proofs.YtnlnbgcmmlpniaaGreatDoor

namespace Go.Proofs.YtnlnbgcmmlpniaaGreatDoor
open Go.RowKit

/-- A slice cut off at its front: its address, in one word. -/
def cutA (A : Option Addr) (c p : Nat) : Option Addr := if c = p then A else A.map (·.add p)
theorem run_cut (W : World) (A : Option Addr) (n c p : Nat) (h : p ≤ n) :
    (Instr.sliceAt 29 (.slice A n c) (some (.int .i64 (p : Int))) none none).run Tryz.prog W = .ok (.slice (cutA A c p) (n - p) (c - p)) W := by
  have h1 : (p : Int) ≤ (n : Int) := by omega
  unfold cutA
  go_simp
theorem run_cutI (W : World) (A : Option Addr) (n c p : Nat) (z : Int) (hz : z = (p : Int)) (h : p ≤ n) :
    (Instr.sliceAt 29 (.slice A n c) (some (.int .i64 z)) none none).run Tryz.prog W = .ok (.slice (cutA A c p) (n - p) (c - p)) W := by
  rw [hz]
  exact run_cut W A n c p h
theorem RdB.cut {B : Nat} {W : World} {A : Option Addr} {l : List UInt8} (h : RdB B W A l) {p c : Nat} (hc : l.length ≤ c) : RdB B W (cutA A c p) (l.drop p) := h.drop hc
/-- .. at both ends. -/
theorem run_cut2 (W : World) (A : Option Addr) (n c p q : Nat) (y z : Int) (hy : y = (p : Int)) (hz : z = (q : Int)) (h : p ≤ q) (hq : q ≤ n) (hc : n ≤ c) :
    (Instr.sliceAt 29 (.slice A n c) (some (.int .i64 y)) (some (.int .i64 z)) none).run Tryz.prog W = .ok (.slice (cutA A c p) (q - p) (c - p)) W := by
  have h1 : (p : Int) ≤ (q : Int) := by omega
  have h2 : (q : Int) ≤ (c : Int) := by omega
  rw [hy, hz]
  unfold cutA
  go_simp
/-- .. at its end. -/
theorem run_cut0 (W : World) (A : Option Addr) (n c q : Nat) (z : Int) (hz : z = (q : Int)) (hq : q ≤ n) (hc : n ≤ c) :
    (Instr.sliceAt 29 (.slice A n c) none (some (.int .i64 z)) none).run Tryz.prog W = .ok (.slice A q c) W := by
  have h2 : (q : Int) ≤ (c : Int) := by omega
  rw [hz]
  go_simp
theorem RdB.sub {B : Nat} {W : World} {A : Option Addr} {l : List UInt8} (h : RdB B W A l) {p c : Nat} (hc : l.length ≤ c) (m : Nat) : RdB B W (cutA A c p) ((l.drop p).take m) := (h.cut hc).take m
end Go.Proofs.YtnlnbgcmmlpniaaGreatDoor

namespace Go.Proofs.YtnlnbgcmmlpniaaGreatDoor
open Go.RowKit

theorem takeNum_lt (l : List UInt8) (most : Nat) : (takeNum l most).1 < 18446744073709551616 ∧ (takeNum l most).1 ≤ most ∧ (takeNum l most).2 ≤ 9 ∧ (takeNum l most).2 ≤ l.length := by
  generalize hp : takeNum l most = p
  obtain ⟨v, k⟩ := p
  by_cases h : k = 0
  · have h1 : v = 0 := by
      subst h
      cases l with
      | nil => unfold takeNum at hp; injection hp with e1 _; exact e1.symm
      | cons c t =>
        rw [takeNum_cons] at hp
        split at hp
        · injection hp with e1 _; exact e1.symm
        · split at hp
          · injection hp with e1 _; exact e1.symm
          · injection hp with _ e2; omega
    simp only
    omega
  · obtain ⟨a1, a2, a3, a4, a5, a6⟩ := num_take hp h
    have h2 := congrArg List.length a4
    rw [List.length_append, List.length_drop, ← a3] at h2
    simp only
    omega

theorem unz_odd {v : Nat} (hp : v % 2 = 1) (h : v < 18446744073709551616) : wrap64 (-1 - wrap64 (IntKind.u64.wrap ((v : Int) / 2))) = unzig v := by
  unfold unzig wrap64
  rw [if_pos hp]
  simp only [IntKind.wrap_u64]
  omega
theorem unz_even {v : Nat} (hp : ¬ v % 2 = 1) (h : v < 18446744073709551616) : wrap64 (IntKind.u64.wrap ((v : Int) / 2)) = unzig v := by
  unfold unzig wrap64
  rw [if_neg hp]
  simp only [IntKind.wrap_u64]
  omega

set_option maxRecDepth 100000 in
set_option maxHeartbeats 2000000 in
theorem refTakeInt_any {B : Nat} (A : Option Addr) (n c : Nat) (l : List UInt8) (w : World) (hn : l.length = n) (hr : RdB B w A l) (hm : n ≤ 1000000) :
    Calls Tryz.prog 106 #[.slice A n c] w fun e w' => e = .returned (.tuple #[.int .i64 (takeIntB l).1, .int .i64 ((takeIntB l).2 : Nat)]) ∧ Drn w w' := by
  have HN := Lib.hid hn
  have hlt := takeNum_lt l 18446744073709551615
  have hT : takeIntB l = (unzig (takeNum l 18446744073709551615).1, (takeNum l 18446744073709551615).2) := rfl
  have HC := Lib.hid (fun W hr => refTakeNumber_any (B := B) A n c l 18446744073709551615 W hn hr hm (by omega))
  rw [hT]
  generalize takeNum l 18446744073709551615 = r at HC hlt ⊢
  obtain ⟨v, k⟩ := r
  have HLT := Lib.hid hlt.1
  clear hn hlt hT
  go_enter Tryz.func106, Tryz.ntmps106
  go_wp2_with fail
  refine (HC.out w hr).mono ?_
  rintro e w1 ⟨rfl, hD⟩
  by_cases hp : v % 2 = 1
  · have e1 : ((v : Int) % 2 == 1) = true := by rw [beq_iff_eq]; omega
    go_wp2_with fail
    go_ret2
    exact ⟨congrArg (fun z => Ending.returned (.tuple #[.int .i64 z, .int .i64 (k : Nat)])) (unz_odd hp HLT.out), hD⟩
  · have e1 : ((v : Int) % 2 == 1) = false := by rw [beq_eq_false_iff_ne]; omega
    go_wp2_with fail
    go_ret2
    exact ⟨congrArg (fun z => Ending.returned (.tuple #[.int .i64 z, .int .i64 (k : Nat)])) (unz_even hp HLT.out), hD⟩

set_option maxRecDepth 100000 in
set_option maxHeartbeats 2000000 in
theorem refTakeText_any {B : Nat} (A : Option Addr) (n c : Nat) (l : List UInt8) (most : Nat) (w : World) (hn : l.length = n) (hr : RdB B w A l) (hm : n ≤ 1000000) (hc : n ≤ c) (hmost : most ≤ 1000000) :
    Calls Tryz.prog 64 #[.slice A n c, .int .u64 most] w fun e w' => (∃ s : ByteArray, e = .returned (.tuple #[.string s, .int .i64 ((takeTextB l most).2 : Nat)]) ∧ s.data.toList = (takeTextB l most).1) ∧ Drn w w' := by
  have HN := Lib.hid hn
  have hlt := takeNum_lt l most
  have HC := Lib.hid (fun W hr => refTakeNumber_any (B := B) A n c l most W hn hr hm (by omega))
  have HT : Hid (takeTextB l most = if (takeNum l most).2 = 0 ∨ n - (takeNum l most).2 < (takeNum l most).1 then ([], 0) else ((l.drop (takeNum l most).2).take (takeNum l most).1, (takeNum l most).2 + (takeNum l most).1)) := by
    show takeTextB l most = _
    unfold takeTextB
    rw [hn]
  generalize takeNum l most = r at HC hlt HT ⊢
  obtain ⟨v, k⟩ := r
  simp only at hlt HT
  rw [hn] at hlt
  obtain ⟨_, l2, l3, l4⟩ := hlt
  have b1 : (v : Int) ≤ 1000000 := by omega
  have b2 : (k : Int) ≤ (n : Int) := by omega
  have b3 : (n : Int) ≤ 1000000 := by omega
  have b4 : (n : Int) ≤ (c : Int) := by omega
  clear hn
  by_cases hk : k = 0
  · have e0 : ((k : Int) == 0) = true := by rw [beq_iff_eq]; omega
    have R : Hid (takeTextB l most = ([], 0)) := by show _ = _; rw [HT.out, if_pos (Or.inl hk)]
    have HK := Lib.hid hk
    clear hk
    go_enter Tryz.func64, Tryz.ntmps64
    go_wp2_with fail
    refine (HC.out w hr).mono ?_
    rintro e w1 ⟨rfl, hD⟩
    go_wp2_with fail
    go_ret2
    rw [R.out]
    exact ⟨⟨_, rfl, rfl⟩, hD⟩
  · have e0 : ((k : Int) == 0) = false := by rw [beq_eq_false_iff_ne]; omega
    by_cases hv : n - k < v
    · have g1 : (n : Int) - (k : Int) < (v : Int) := by omega
      have g2 : (0 : Int) ≤ (n : Int) - (k : Int) := by omega
      have R : Hid (takeTextB l most = ([], 0)) := by show _ = _; rw [HT.out, if_pos (Or.inr hv)]
      clear hk hv
      go_enter Tryz.func64, Tryz.ntmps64
      go_wp2_with fail
      refine (HC.out w hr).mono ?_
      rintro e w1 ⟨rfl, hD⟩
      go_wp2_with fail
      go_ret2
      rw [R.out]
      exact ⟨⟨_, rfl, rfl⟩, hD⟩
    · have g1 : (v : Int) ≤ (n : Int) - (k : Int) := by omega
      have g2 : (0 : Int) ≤ (n : Int) - (k : Int) := by omega
      have g3 : (k : Int) + (v : Int) ≤ (c : Int) := by omega
      have g4 : (k : Int) ≤ (k : Int) + (v : Int) := by omega
      have R : Hid (takeTextB l most = ((l.drop k).take v, k + v)) := by show _ = _; rw [HT.out, if_neg (by rintro (h | h); exact hk h; exact hv h)]
      have hlen : ((l.drop k).take v).length = v := by
        have := HN.out
        rw [List.length_take, List.length_drop]
        omega
      have HL := Lib.hid hlen
      have hlc : l.length ≤ c := by rw [HN.out]; exact hc
      have HLC := Lib.hid hlc
      clear hk hv hlen hlc
      by_cases hck : c = k
      · have hr0 : RdB B w A ((l.drop k).take v) := by
          have h := (hr.drop (m := k) HLC.out).take v
          rwa [if_pos hck] at h
        have hv0 : v = 0 := by omega
        have HV := Lib.hid hv0
        clear hv0 hr0
        subst hck
        go_enter Tryz.func64, Tryz.ntmps64
        go_wp2_with fail
        refine (HC.out w hr).mono ?_
        rintro e w1 ⟨rfl, hD⟩
        have hcv := conv_rd w1 A 0 0 [] rfl (RdB.nil B w1 A)
        go_wp2_with fail
        go_ret2
        rw [R.out]
        exact ⟨⟨_, rfl, (List.eq_nil_of_length_eq_zero (by rw [HL.out, HV.out])).symm⟩, hD⟩
      · have hr0 : RdB B w (A.map (·.add k)) ((l.drop k).take v) := by
          have h := (hr.drop (m := k) HLC.out).take v
          rwa [if_neg hck] at h
        have HR0 := Lib.hid hr0
        have hck2 : (c == k) = false := by simpa using hck
        clear hr0
        go_enter Tryz.func64, Tryz.ntmps64
        go_wp2_with fail
        refine (HC.out w hr).mono ?_
        rintro e w1 ⟨rfl, hD⟩
        have hcv := conv_rd w1 (A.map (·.add k)) v (c - k) _ HL.out (HR0.out.keep (hD.below B) (Nat.le_refl _))
        go_wp2_with fail
        go_ret2
        rw [R.out]
        exact ⟨⟨_, rfl, rfl⟩, hD⟩
end Go.Proofs.YtnlnbgcmmlpniaaGreatDoor

namespace Go.Proofs.YtnlnbgcmmlpniaaGreatDoor
open Go.RowKit

/-- A value, taken: kind, number, text; how many bytes. -/
def takeValC (v k : Nat) (b : List UInt8) : (Int × Int × List UInt8) × Nat :=
  if k = 0 ∨ v = 0 then ((0, 0, []), k)
  else if v = 1 then (if (takeIntB (b.drop k)).2 = 0 then ((0, 0, []), 0) else ((1, (takeIntB (b.drop k)).1, []), k + (takeIntB (b.drop k)).2))
  else (if (takeTextB (b.drop k) 40).2 = 0 then ((0, 0, []), 0) else ((2, 0, (takeTextB (b.drop k) 40).1), k + (takeTextB (b.drop k) 40).2))
def takeValB (b : List UInt8) : (Int × Int × List UInt8) × Nat := takeValC (takeNum b 2).1 (takeNum b 2).2 b
/-- What TakeValue answers. -/
def TakeVP (r : (Int × Int × List UInt8) × Nat) (w : World) (e : Ending) (w' : World) : Prop :=
  (∃ s : ByteArray, e = .returned (.tuple #[.agg #[.int .i64 r.1.1, .int .i64 r.1.2.1, .string s], .int .i64 (r.2 : Nat)]) ∧ s.data.toList = r.1.2.2) ∧ Below w.heap.size w w'

set_option maxHeartbeats 400000 in
theorem refIntV_any (n : Int) (w : World) :
    Calls Tryz.prog 107 #[.int .i64 n] w fun e w' => e = .returned (.agg #[.int .i64 1, .int .i64 n, .string ⟨#[]⟩]) ∧ Below w.heap.size w w' := by
  go_enter Tryz.func107, Tryz.ntmps107
  go_wp2
  exact bodyPost_ret (v := .agg #[.int .i64 1, .int .i64 n, .string ⟨#[]⟩]) (by simp [results, Tryz.results107, go_sem]) rfl ⟨rfl, (Below.refl _ _).alloc (Nat.le_refl _) _⟩
theorem takeText_le (l : List UInt8) (most : Nat) : (takeTextB l most).2 ≤ l.length := by
  unfold takeTextB
  have h := takeNum_lt l most
  split
  · simp
  · rename_i h1
    have h2 : ¬ l.length - (takeNum l most).2 < (takeNum l most).1 := fun e => h1 (Or.inr e)
    simp only
    omega
theorem takeInt_le (l : List UInt8) : (takeIntB l).2 ≤ l.length := (takeNum_lt l 18446744073709551615).2.2.2
theorem takeInt_nil : takeIntB [] = (0, 0) := rfl
theorem takeText_nil (most : Nat) : takeTextB [] most = ([], 0) := rfl
/-- A slice cut off at its front, in the model's two forms. -/
theorem cut_cases {B : Nat} {w : World} {A : Option Addr} {n c k : Nat} {l : List UInt8} (hr : RdB B w A l) (hn : l.length = n) (hk : k ≤ n) (hc : n ≤ c) :
    (c = k ∧ n = k ∧ l.drop k = []) ∨ (c ≠ k ∧ RdB B w (A.map (·.add k)) (l.drop k) ∧ (l.drop k).length = n - k) := by
  by_cases h : c = k
  · exact Or.inl ⟨h, by omega, List.drop_eq_nil_of_le (by omega)⟩
  · have h1 := hr.drop (m := k) (c := c) (by omega)
    rw [if_neg h] at h1
    exact Or.inr ⟨h, h1, by rw [List.length_drop, hn]⟩
theorem below3b {w W : World} {b : Nat} (h : Below w.heap.size w W) (hb : w.heap.size ≤ b) (v0 v1 v2 : Value) : Below w.heap.size w (((W.setCell ⟨b, 0, none⟩ v0).setCell ⟨b, 1, none⟩ v1).setCell ⟨b, 2, none⟩ v2) :=
  ((h.setCell (p := ⟨b, 0, none⟩) hb v0).setCell (p := ⟨b, 1, none⟩) hb v1).setCell (p := ⟨b, 2, none⟩) hb v2
theorem dr_below {w a b : World} (h : Below w.heap.size w a) (k : Drn a b) : Below w.heap.size w b := bt h (k.below _)

set_option maxRecDepth 100000 in
set_option maxHeartbeats 4000000 in
theorem refTakeValue_any {B : Nat} (A : Option Addr) (n c : Nat) (l : List UInt8) (w : World) (hn : l.length = n) (hr : RdB B w A l) (hB : B ≤ w.heap.size) (hm : n ≤ 1000000) (hc : n ≤ c) :
    Calls Tryz.prog 65 #[.slice A n c] w fun e w' => TakeVP (takeValB l) w e w' := by
  have HN := Lib.hid hn
  have hlt := takeNum_lt l 2
  have HC := Lib.hid (fun W hr => refTakeNumber_any (B := B) A n c l 2 W hn hr hm (by omega))
  have HT : Hid (takeValB l = takeValC (takeNum l 2).1 (takeNum l 2).2 l) := rfl
  generalize takeNum l 2 = r at HC hlt HT ⊢
  obtain ⟨v, k⟩ := r
  simp only at hlt HT
  rw [hn] at hlt
  obtain ⟨_, l2, l3, l4⟩ := hlt
  have b2 : (k : Int) ≤ (n : Int) := by omega
  have b3 : (n : Int) ≤ 1000000 := by omega
  have b4 : (n : Int) ≤ (c : Int) := by omega
  have b5 : (k : Int) ≤ (c : Int) := by omega
  have b6 : (0 : Int) ≤ (k : Int) := by omega
  have HCUT := Lib.hid (fun W (h : RdB B W A l) => cut_cases h hn l4 hc)
  clear hn
  by_cases hk : k = 0
  · have e0 : ((k : Int) == 0) = true := by rw [beq_iff_eq]; omega
    have R : Hid (takeValB l = ((0, 0, []), k)) := by show _ = _; rw [HT.out]; exact if_pos (Or.inl hk)
    have RR := R.out
    clear hk R
    go_enter Tryz.func65, Tryz.ntmps65
    go_wp2_with fail
    have hK := blk_new w #[.int .i64 0, .int .i64 0, .string ⟨#[]⟩] 59
    have hB0 := b0 w (.cells #[.int .i64 0, .int .i64 0, .string ⟨#[]⟩] 59)
    generalize w.alloc (.cells #[.int .i64 0, .int .i64 0, .string ⟨#[]⟩] 59) = W at hK hB0 ⊢
    have hrW := hr.keep hB0 hB
    refine (HC.out W hrW).mono ?_
    rintro e w1 ⟨rfl, hD⟩
    have hr1 := hrW.keep (hD.below B) (Nat.le_refl _)
    have hB1 := dr_below hB0 hD
    have hK1 := hK.keep (hD.below _)
    clear hK hB0 hrW hD
    generalize hq : w.heap.size = b at hK1 ⊢
    have hbw : w.heap.size ≤ b := Nat.le_of_eq hq
    clear hq
    obtain ⟨c0, c1, c2, c3⟩ := hK1.c3
    obtain ⟨f0, f1, f2⟩ := hK1.f3
    go_wp2_with fail
    exact bodyPost_ret (v := .tuple #[.agg #[.int .i64 0, .int .i64 0, .string ⟨#[]⟩], .int .i64 (k : Nat)]) (by simp [results, Tryz.results65, go_sem, c0, c1, c2]) rfl (by rw [RR]; exact ⟨⟨_, rfl, rfl⟩, below3b hB1 hbw _ _ _⟩)
  · have e0 : ((k : Int) == 0) = false := by rw [beq_eq_false_iff_ne]; omega
    have hv : v = 0 ∨ v = 1 ∨ v = 2 := by omega
    rcases hv with rfl | rfl | rfl
    · have RR : takeValB l = ((0, 0, []), k) := by rw [HT.out]; exact if_pos (Or.inr rfl)
      have R := Lib.hid RR
      clear RR hk
      go_enter Tryz.func65, Tryz.ntmps65
      go_wp2_with fail
      have hK := blk_new w #[.int .i64 0, .int .i64 0, .string ⟨#[]⟩] 59
      have hB0 := b0 w (.cells #[.int .i64 0, .int .i64 0, .string ⟨#[]⟩] 59)
      generalize w.alloc (.cells #[.int .i64 0, .int .i64 0, .string ⟨#[]⟩] 59) = W at hK hB0 ⊢
      have hrW := hr.keep hB0 hB
      refine (HC.out W hrW).mono ?_
      rintro e w1 ⟨rfl, hD⟩
      have hr1 := hrW.keep (hD.below B) (Nat.le_refl _)
      have hB1 := dr_below hB0 hD
      have hK1 := hK.keep (hD.below _)
      clear hK hB0 hrW hD
      generalize hq : w.heap.size = b at hK1 ⊢
      have hbw : w.heap.size ≤ b := Nat.le_of_eq hq
      clear hq
      obtain ⟨c0, c1, c2, c3⟩ := hK1.c3
      obtain ⟨f0, f1, f2⟩ := hK1.f3
      go_wp2_with fail
      exact bodyPost_ret (v := .tuple #[.agg #[.int .i64 0, .int .i64 0, .string ⟨#[]⟩], .int .i64 (k : Nat)]) (by simp [results, Tryz.results65, go_sem, c0, c1, c2]) rfl (by rw [R.out]; exact ⟨⟨_, rfl, rfl⟩, below3b hB1 hbw _ _ _⟩)
    · rcases HCUT.out w hr with ⟨hck, hnk, hnil⟩ | ⟨hck, hr5, hl5⟩
      · have R : Hid (takeValB l = ((0, 0, []), 0)) := by
          show _ = _
          rw [HT.out]; unfold takeValC; rw [if_neg (by omega), if_pos rfl]
          rw [hnil]
          rfl
        subst hck
        subst hnk
        clear hk
        go_enter Tryz.func65, Tryz.ntmps65
        go_wp2_with fail
        have hK := blk_new w #[.int .i64 0, .int .i64 0, .string ⟨#[]⟩] 59
        have hB0 := b0 w (.cells #[.int .i64 0, .int .i64 0, .string ⟨#[]⟩] 59)
        generalize w.alloc (.cells #[.int .i64 0, .int .i64 0, .string ⟨#[]⟩] 59) = W at hK hB0 ⊢
        have hrW := hr.keep hB0 hB
        refine (HC.out W hrW).mono ?_
        rintro e w1 ⟨rfl, hD⟩
        have hr1 := hrW.keep (hD.below B) (Nat.le_refl _)
        have hB1 := dr_below hB0 hD
        have hK1 := hK.keep (hD.below _)
        clear hK hB0 hrW hD
        generalize hq : w.heap.size = b at hK1 ⊢
        have hbw : w.heap.size ≤ b := Nat.le_of_eq hq
        clear hq
        obtain ⟨c0, c1, c2, c3⟩ := hK1.c3
        obtain ⟨f0, f1, f2⟩ := hK1.f3
        go_wp2_with fail
        refine (refTakeInt_any A 0 0 [] _ rfl (RdB.nil B w1 A) (by omega)).mono ?_
        rintro e w2 ⟨rfl, hD2⟩
        rw [takeInt_nil]
        skip
        have hB2 := dr_below hB1 hD2
        have hK2 := hK1.keep (hD2.below _)
        clear c0 c1 c2 c3 f0 f1 f2
        obtain ⟨c0, c1, c2, c3⟩ := hK2.c3
        obtain ⟨f0, f1, f2⟩ := hK2.f3
        go_wp2_with fail
        exact bodyPost_ret (v := .tuple #[.agg #[.int .i64 0, .int .i64 0, .string ⟨#[]⟩], .int .i64 0]) (by simp [results, Tryz.results65, go_sem, c0, c1, c2]) rfl (by rw [R.out]; exact ⟨⟨_, rfl, rfl⟩, below3b hB2 hbw _ _ _⟩)
      · have HX : Hid (takeIntB (l.drop k) = (takeIntB (l.drop k))) := rfl
        generalize hq : takeIntB (l.drop k) = q at HX
        obtain ⟨x, m⟩ := q
        have hml : m ≤ n - k := by
          have h := takeInt_le (l.drop k)
          rw [hq, hl5] at h
          exact h
        have HQ := Lib.hid hq
        have HL5 := Lib.hid hl5
        have HR5 := Lib.hid hr5
        have hck2 : (c == k) = false := by simpa using hck
        clear hq hl5 hr5 HX
        by_cases h0 : m = 0
        · have R : Hid (takeValB l = ((0, 0, []), 0)) := by
            show _ = _
            rw [HT.out]; unfold takeValC; rw [if_neg (by omega), if_pos rfl]
            rw [HQ.out]
            exact if_pos h0
          have e1 : ((m : Int) == 0) = true := by rw [beq_iff_eq]; omega
          clear h0 hk
          go_enter Tryz.func65, Tryz.ntmps65
          go_wp2_with fail
          have hK := blk_new w #[.int .i64 0, .int .i64 0, .string ⟨#[]⟩] 59
          have hB0 := b0 w (.cells #[.int .i64 0, .int .i64 0, .string ⟨#[]⟩] 59)
          generalize w.alloc (.cells #[.int .i64 0, .int .i64 0, .string ⟨#[]⟩] 59) = W at hK hB0 ⊢
          have hrW := hr.keep hB0 hB
          refine (HC.out W hrW).mono ?_
          rintro e w1 ⟨rfl, hD⟩
          have hr1 := hrW.keep (hD.below B) (Nat.le_refl _)
          have hB1 := dr_below hB0 hD
          have hK1 := hK.keep (hD.below _)
          clear hK hB0 hrW hD
          generalize hq : w.heap.size = b at hK1 ⊢
          have hbw : w.heap.size ≤ b := Nat.le_of_eq hq
          clear hq
          obtain ⟨c0, c1, c2, c3⟩ := hK1.c3
          obtain ⟨f0, f1, f2⟩ := hK1.f3
          go_wp2_with fail
          have hr5 := (HCUT.out w1 hr1).resolve_left (fun h => hck h.1) |>.2.1
          refine (refTakeInt_any (A.map (·.add k)) (n - k) (c - k) (l.drop k) _ HL5.out hr5 (by omega)).mono ?_
          rintro e w2 ⟨rfl, hD2⟩
          rw [HQ.out]
          have hB2 := dr_below hB1 hD2
          have hK2 := hK1.keep (hD2.below _)
          clear c0 c1 c2 c3 f0 f1 f2
          obtain ⟨c0, c1, c2, c3⟩ := hK2.c3
          obtain ⟨f0, f1, f2⟩ := hK2.f3
          go_wp2_with fail
          exact bodyPost_ret (v := .tuple #[.agg #[.int .i64 0, .int .i64 0, .string ⟨#[]⟩], .int .i64 0]) (by simp [results, Tryz.results65, go_sem, c0, c1, c2]) rfl (by rw [R.out]; exact ⟨⟨_, rfl, rfl⟩, below3b hB2 hbw _ _ _⟩)
        · have R : Hid (takeValB l = ((1, x, []), k + m)) := by
            show _ = _
            rw [HT.out]; unfold takeValC; rw [if_neg (by omega), if_pos rfl]
            rw [HQ.out]
            exact if_neg h0
          have e1 : ((m : Int) == 0) = false := by rw [beq_eq_false_iff_ne]; omega
          clear h0 hk
          go_enter Tryz.func65, Tryz.ntmps65
          go_wp2_with fail
          have hK := blk_new w #[.int .i64 0, .int .i64 0, .string ⟨#[]⟩] 59
          have hB0 := b0 w (.cells #[.int .i64 0, .int .i64 0, .string ⟨#[]⟩] 59)
          generalize w.alloc (.cells #[.int .i64 0, .int .i64 0, .string ⟨#[]⟩] 59) = W at hK hB0 ⊢
          have hrW := hr.keep hB0 hB
          refine (HC.out W hrW).mono ?_
          rintro e w1 ⟨rfl, hD⟩
          have hr1 := hrW.keep (hD.below B) (Nat.le_refl _)
          have hB1 := dr_below hB0 hD
          have hK1 := hK.keep (hD.below _)
          clear hK hB0 hrW hD
          generalize hq : w.heap.size = b at hK1 ⊢
          have hbw : w.heap.size ≤ b := Nat.le_of_eq hq
          clear hq
          obtain ⟨c0, c1, c2, c3⟩ := hK1.c3
          obtain ⟨f0, f1, f2⟩ := hK1.f3
          go_wp2_with fail
          have hr5 := (HCUT.out w1 hr1).resolve_left (fun h => hck h.1) |>.2.1
          refine (refTakeInt_any (A.map (·.add k)) (n - k) (c - k) (l.drop k) _ HL5.out hr5 (by omega)).mono ?_
          rintro e w2 ⟨rfl, hD2⟩
          rw [HQ.out]
          have hB2 := dr_below hB1 hD2
          have hK2 := hK1.keep (hD2.below _)
          clear c0 c1 c2 c3 f0 f1 f2
          obtain ⟨c0, c1, c2, c3⟩ := hK2.c3
          obtain ⟨f0, f1, f2⟩ := hK2.f3
          go_wp2_with fail
          refine (refIntV_any x _).mono ?_
          rintro e w3 ⟨rfl, hb3⟩
          have hB3 := bt hB2 hb3
          have hK3 := hK2.keep hb3
          clear c0 c1 c2 c3 f0 f1 f2
          obtain ⟨c0, c1, c2, c3⟩ := hK3.c3
          obtain ⟨f0, f1, f2⟩ := hK3.f3
          go_wp2_with fail
          exact bodyPost_ret (v := .tuple #[.agg #[.int .i64 1, .int .i64 x, .string ⟨#[]⟩], .int .i64 (k + m : Nat)]) (by simp [results, Tryz.results65, go_sem, c0, c1, c2]) rfl (by rw [R.out]; exact ⟨⟨_, rfl, rfl⟩, below3b hB3 hbw _ _ _⟩)
    · rcases HCUT.out w hr with ⟨hck, hnk, hnil⟩ | ⟨hck, hr5, hl5⟩
      · have R : Hid (takeValB l = ((0, 0, []), 0)) := by
          show _ = _
          rw [HT.out]; unfold takeValC; rw [if_neg (by omega), if_neg (by omega)]
          rw [hnil]
          rfl
        subst hck
        subst hnk
        clear hk
        go_enter Tryz.func65, Tryz.ntmps65
        go_wp2_with fail
        have hK := blk_new w #[.int .i64 0, .int .i64 0, .string ⟨#[]⟩] 59
        have hB0 := b0 w (.cells #[.int .i64 0, .int .i64 0, .string ⟨#[]⟩] 59)
        generalize w.alloc (.cells #[.int .i64 0, .int .i64 0, .string ⟨#[]⟩] 59) = W at hK hB0 ⊢
        have hrW := hr.keep hB0 hB
        refine (HC.out W hrW).mono ?_
        rintro e w1 ⟨rfl, hD⟩
        have hr1 := hrW.keep (hD.below B) (Nat.le_refl _)
        have hB1 := dr_below hB0 hD
        have hK1 := hK.keep (hD.below _)
        clear hK hB0 hrW hD
        generalize hq : w.heap.size = b at hK1 ⊢
        have hbw : w.heap.size ≤ b := Nat.le_of_eq hq
        clear hq
        obtain ⟨c0, c1, c2, c3⟩ := hK1.c3
        obtain ⟨f0, f1, f2⟩ := hK1.f3
        go_wp2_with fail
        refine (refTakeText_any A 0 0 [] 40 _ rfl (RdB.nil B w1 A) (by omega) (by omega) (by omega)).mono ?_
        rintro e w2 ⟨⟨s2, rfl, hs2⟩, hD2⟩
        rw [takeText_nil 40] at hs2 ⊢
        clear hs2
        have hB2 := dr_below hB1 hD2
        have hK2 := hK1.keep (hD2.below _)
        clear c0 c1 c2 c3 f0 f1 f2
        obtain ⟨c0, c1, c2, c3⟩ := hK2.c3
        obtain ⟨f0, f1, f2⟩ := hK2.f3
        go_wp2_with fail
        exact bodyPost_ret (v := .tuple #[.agg #[.int .i64 0, .int .i64 0, .string ⟨#[]⟩], .int .i64 0]) (by simp [results, Tryz.results65, go_sem, c0, c1, c2]) rfl (by rw [R.out]; exact ⟨⟨_, rfl, rfl⟩, below3b hB2 hbw _ _ _⟩)
      · have HX : Hid (takeTextB (l.drop k) 40 = (takeTextB (l.drop k) 40)) := rfl
        generalize hq : takeTextB (l.drop k) 40 = q at HX
        obtain ⟨x, m⟩ := q
        have hml : m ≤ n - k := by
          have h := takeText_le (l.drop k) 40
          rw [hq, hl5] at h
          exact h
        have HQ := Lib.hid hq
        have HL5 := Lib.hid hl5
        have HR5 := Lib.hid hr5
        have hck2 : (c == k) = false := by simpa using hck
        clear hq hl5 hr5 HX
        by_cases h0 : m = 0
        · have R : Hid (takeValB l = ((0, 0, []), 0)) := by
            show _ = _
            rw [HT.out]; unfold takeValC; rw [if_neg (by omega), if_neg (by omega)]
            rw [HQ.out]
            exact if_pos h0
          have e1 : ((m : Int) == 0) = true := by rw [beq_iff_eq]; omega
          clear h0 hk
          go_enter Tryz.func65, Tryz.ntmps65
          go_wp2_with fail
          have hK := blk_new w #[.int .i64 0, .int .i64 0, .string ⟨#[]⟩] 59
          have hB0 := b0 w (.cells #[.int .i64 0, .int .i64 0, .string ⟨#[]⟩] 59)
          generalize w.alloc (.cells #[.int .i64 0, .int .i64 0, .string ⟨#[]⟩] 59) = W at hK hB0 ⊢
          have hrW := hr.keep hB0 hB
          refine (HC.out W hrW).mono ?_
          rintro e w1 ⟨rfl, hD⟩
          have hr1 := hrW.keep (hD.below B) (Nat.le_refl _)
          have hB1 := dr_below hB0 hD
          have hK1 := hK.keep (hD.below _)
          clear hK hB0 hrW hD
          generalize hq : w.heap.size = b at hK1 ⊢
          have hbw : w.heap.size ≤ b := Nat.le_of_eq hq
          clear hq
          obtain ⟨c0, c1, c2, c3⟩ := hK1.c3
          obtain ⟨f0, f1, f2⟩ := hK1.f3
          go_wp2_with fail
          have hr5 := (HCUT.out w1 hr1).resolve_left (fun h => hck h.1) |>.2.1
          refine (refTakeText_any (A.map (·.add k)) (n - k) (c - k) (l.drop k) 40 _ HL5.out hr5 (by omega) (by omega) (by omega)).mono ?_
          rintro e w2 ⟨⟨s2, rfl, hs2⟩, hD2⟩
          rw [HQ.out] at hs2 ⊢
          have hB2 := dr_below hB1 hD2
          have hK2 := hK1.keep (hD2.below _)
          clear c0 c1 c2 c3 f0 f1 f2
          obtain ⟨c0, c1, c2, c3⟩ := hK2.c3
          obtain ⟨f0, f1, f2⟩ := hK2.f3
          go_wp2_with fail
          exact bodyPost_ret (v := .tuple #[.agg #[.int .i64 0, .int .i64 0, .string ⟨#[]⟩], .int .i64 0]) (by simp [results, Tryz.results65, go_sem, c0, c1, c2]) rfl (by rw [R.out]; exact ⟨⟨_, rfl, rfl⟩, below3b hB2 hbw _ _ _⟩)
        · have R : Hid (takeValB l = ((2, 0, x), k + m)) := by
            show _ = _
            rw [HT.out]; unfold takeValC; rw [if_neg (by omega), if_neg (by omega)]
            rw [HQ.out]
            exact if_neg h0
          have e1 : ((m : Int) == 0) = false := by rw [beq_eq_false_iff_ne]; omega
          clear h0 hk
          go_enter Tryz.func65, Tryz.ntmps65
          go_wp2_with fail
          have hK := blk_new w #[.int .i64 0, .int .i64 0, .string ⟨#[]⟩] 59
          have hB0 := b0 w (.cells #[.int .i64 0, .int .i64 0, .string ⟨#[]⟩] 59)
          generalize w.alloc (.cells #[.int .i64 0, .int .i64 0, .string ⟨#[]⟩] 59) = W at hK hB0 ⊢
          have hrW := hr.keep hB0 hB
          refine (HC.out W hrW).mono ?_
          rintro e w1 ⟨rfl, hD⟩
          have hr1 := hrW.keep (hD.below B) (Nat.le_refl _)
          have hB1 := dr_below hB0 hD
          have hK1 := hK.keep (hD.below _)
          clear hK hB0 hrW hD
          generalize hq : w.heap.size = b at hK1 ⊢
          have hbw : w.heap.size ≤ b := Nat.le_of_eq hq
          clear hq
          obtain ⟨c0, c1, c2, c3⟩ := hK1.c3
          obtain ⟨f0, f1, f2⟩ := hK1.f3
          go_wp2_with fail
          have hr5 := (HCUT.out w1 hr1).resolve_left (fun h => hck h.1) |>.2.1
          refine (refTakeText_any (A.map (·.add k)) (n - k) (c - k) (l.drop k) 40 _ HL5.out hr5 (by omega) (by omega) (by omega)).mono ?_
          rintro e w2 ⟨⟨s2, rfl, hs2⟩, hD2⟩
          rw [HQ.out] at hs2 ⊢
          have hB2 := dr_below hB1 hD2
          have hK2 := hK1.keep (hD2.below _)
          clear c0 c1 c2 c3 f0 f1 f2
          obtain ⟨c0, c1, c2, c3⟩ := hK2.c3
          obtain ⟨f0, f1, f2⟩ := hK2.f3
          go_wp2_with fail
          exact bodyPost_ret (v := .tuple #[.agg #[.int .i64 2, .int .i64 0, .string s2], .int .i64 (k + m : Nat)]) (by simp [results, Tryz.results65, go_sem, c0, c1, c2]) rfl (by rw [R.out]; exact ⟨⟨_, rfl, hs2⟩, below3b hB2 hbw _ _ _⟩)
end Go.Proofs.YtnlnbgcmmlpniaaGreatDoor
