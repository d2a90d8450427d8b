/-
  WHAT IS PROVED: the document's taking of numbers, ints, texts and flags from bytes (spinneyref05), for all bytes. Conditions: those typed in each theorem. · the document's taking of ints, texts and flags from bytes (spinneyref05), for all bytes. Conditions: those typed in each theorem. · the document's taking of values from bytes (spinneyref05.TakeValue), for all bytes. Conditions: those typed in the theorem.
-/
import Derived.Test.YtahmjiomkaibgaaDoorMRef
import Derived.Test.YtahmjiomkaibgaaDoorMWords
namespace Go.Proofs.YtahmjiomkaibgaaDoor
open Go.RowKit

theorem wrap_be {v n : Nat} (h : v * 256 + n < 18446744073709551616) : IntKind.u64.wrap (IntKind.u64.wrap ((v : Int) * 256) + IntKind.u64.wrap (n : Int)) = ((v * 256 + n : Nat) : Int) := by
  simp only [IntKind.wrap_u64]
  omega
theorem beV_take {t : List UInt8} {j : Nat} {x : UInt8} (h : t[j]? = some x) : beV (t.take (j + 1)) = beV (t.take j) * 256 + x.toNat := by
  have hj := (List.getElem?_eq_some_iff.1 h).1
  rw [List.take_succ_eq_append_getElem hj, beV_snoc]
  rw [List.getElem?_eq_getElem hj] at h
  injection h with h
  rw [h]
theorem beV_take_lt (t : List UInt8) (j : Nat) (h : j ≤ 8) : beV (t.take j) < 18446744073709551616 := by
  have h1 := beV_lt (t.take j)
  have h2 : (t.take j).length ≤ 8 := by rw [List.length_take]; omega
  have h3 : 256 ^ (t.take j).length ≤ 256 ^ 8 := Nat.pow_le_pow_right (by omega) h2
  rw [pow_eight] at h3
  omega
theorem RdB.cells {B : Nat} {W : World} {ad : Addr} {l : List UInt8} (h : RdB B W (some ad) l) {k : Nat} {x : UInt8} (hx : l[k]? = some x) : W.cell? (ad.add k) = some (.int .u8 (x.toNat : Int)) := by
  obtain ⟨a2, e, _, hc⟩ := h k x hx
  injection e with e
  subst e
  exact hc
theorem add_one_at (a : Addr) : a.add 1 = ⟨a.block, a.off + 1, none⟩ := rfl
/-- The pair that TakeNumber answers. -/
def TakeP (r : Nat × Nat) (w : World) (e : Ending) (w' : World) : Prop := e = .returned (.tuple #[.int .u64 (r.1 : Nat), .int .i64 (r.2 : Nat)]) ∧ Drn w w'

set_option maxRecDepth 100000 in
set_option maxHeartbeats 4000000 in
theorem refTakeNumber_any {B : Nat} (A : Option Addr) (n c : Nat) (l : List UInt8) (most : Nat) (w : World) (hn : l.length = n) (hr : RdB B w A l) (hm : n ≤ 1000000) (_hmost : most < 18446744073709551616) :
    Calls Tryd.prog 28 #[.slice A n c, .int .u64 most] w fun e w' => TakeP (takeNum l most) w e w' := by
  cases l with
  | nil =>
    have n0 : n = 0 := by rw [← hn]; rfl
    subst n0
    clear hn hm
    go_enter Tryd.func28, Tryd.ntmps28
    go_wp2_with fail
    go_ret2
    exact ⟨rfl, Drn.refl _⟩
  | cons c0 t =>
    obtain ⟨ad, rfl, _, hc0⟩ := hr 0 c0 rfl
    rw [show ad.add 0 = ad from rfl] at hc0
    have e0 : ((n : Int) == 0) = false := by
      rw [beq_eq_false_iff_ne]
      rw [List.length_cons] at hn
      omega
    have i0 : (0 : Int) < (n : Int) := by rw [List.length_cons] at hn; omega
    have hc := c0.toNat_lt
    rw [List.length_cons] at hn
    by_cases h8 : 8 < c0.toNat
    · have g8 : (8 : Int) < (c0.toNat : Int) := by omega
      have R : Hid (takeNum (c0 :: t) most = (0, 0)) := by show _ = _; rw [takeNum_cons, if_pos (Or.inl h8)]
      clear hn hm hc
      go_enter Tryd.func28, Tryd.ntmps28
      go_wp2_with fail
      go_ret2
      rw [R.out]
      exact ⟨rfl, Drn.refl _⟩
    · have g8 : (c0.toNat : Int) ≤ 8 := by omega
      have g1 : (0 : Int) ≤ (c0.toNat : Int) := by omega
      by_cases hl : t.length < c0.toNat
      · have gl : (n : Int) - 1 < (c0.toNat : Int) := by omega
        have R : Hid (takeNum (c0 :: t) most = (0, 0)) := by show _ = _; rw [takeNum_cons, if_pos (Or.inr (Or.inl hl))]
        have nb : (n : Int) ≤ 1000000 := by omega
        clear hn hm hc
        go_enter Tryd.func28, Tryd.ntmps28
        go_wp2_with fail
        go_ret2
        rw [R.out]
        exact ⟨rfl, Drn.refl _⟩
      · have gl : (c0.toNat : Int) ≤ (n : Int) - 1 := by omega
        have nb : (n : Int) ≤ 1000000 := by omega
        by_cases hz : 0 < c0.toNat ∧ t.head? = some 0
        · have hc1 := hr.cells (k := 1) (x := 0) (by
            rw [List.getElem?_cons_succ]
            rw [List.head?_eq_getElem?] at hz
            exact hz.2)
          have gz : (0 : Int) < (c0.toNat : Int) := by omega
          have gzN : 0 < c0.toNat := by omega
          have gn : (1 : Int) < (n : Int) := by omega
          have gnN : 1 < n := by omega
          have R : Hid (takeNum (c0 :: t) most = (0, 0)) := by show _ = _; rw [takeNum_cons, if_pos (Or.inr (Or.inr hz))]
          rw [show (((0 : UInt8).toNat : Nat) : Int) = 0 from rfl, add_one_at] at hc1
          clear hn hm hc hz
          go_enter Tryd.func28, Tryd.ntmps28
          go_wp2_with fail
          go_ret2
          rw [R.out]
          exact ⟨rfl, Drn.refl _⟩
        · have HG : Hid (¬ (8 < c0.toNat ∨ t.length < c0.toNat ∨ (0 < c0.toNat ∧ t.head? = some 0))) := by
            rintro (h | h | h)
            · exact h8 h
            · exact hl h
            · exact hz h
          by_cases hc00 : c0.toNat = 0
          · have gz : decide (0 < c0.toNat) = false := by simp; omega
            have HC := Lib.hid hc00
            clear hz hc00
            go_enter Tryd.func28, Tryd.ntmps28
            go_wp2_with fail
            go_loop [6, 7] (fun u i => ∃ j v : Nat, 1 ≤ j ∧ j ≤ c0.toNat + 1 ∧ u = .int .u64 v ∧ i = .int .i64 j ∧ Hid (v = beV (t.take (j - 1)))) (fun _ i => c0.toNat + 1 - (intOf i).toNat)
            case atStart => exact ⟨1, 0, Nat.le_refl _, by omega, rfl, rfl, rfl⟩
            case round =>
              obtain ⟨j, v, hj1, hj2, rfl, rfl, hV⟩ := hrel
              by_cases hj : j ≤ c0.toNat
              · have hjt : j - 1 < t.length := by omega
                have hx := List.getElem?_eq_getElem hjt
                generalize t[j - 1] = x at hx
                have hcx := hr.cells (k := j) (x := x) (by
                  have e : j = (j - 1) + 1 := by omega
                  rw [e, List.getElem?_cons_succ]
                  exact hx)
                have q1 : (0 : Int) ≤ (j : Int) := by omega
                have q2 : (j : Int) < (n : Int) := by omega
                have q3 : (j : Int) ≤ (c0.toNat : Int) := by omega
                have hvx : beV (t.take j) = v * 256 + x.toNat := by
                  have h := beV_take hx
                  rw [show j - 1 + 1 = j by omega] at h
                  rw [h, hV.out]
                have HW := Lib.hid (wrap_be (v := v) (n := x.toNat) (by rw [← hvx]; exact beV_take_lt t j (by omega)))
                have HV2 : Hid (v * 256 + x.toNat = beV (t.take (j + 1 - 1))) := hvx.symm
                clear hx hvx hV hjt
                go_wp2_with fail
                go_round
                case rel => exact ⟨j + 1, v * 256 + x.toNat, by omega, by omega, by rw [HW.out], by go_num, HV2⟩
                case measure => simp [intOf]; omega
              · have q3 : ¬ (j : Int) ≤ (c0.toNat : Int) := by omega
                have hv : v = beV (t.take c0.toNat) := by
                  rw [hV.out, show j - 1 = c0.toNat by omega]
                have HV := Lib.hid hv
                clear hv hV
                by_cases hmv : most < v
                · have g : (most : Int) < (v : Int) := by omega
                  have R : Hid (takeNum (c0 :: t) most = (0, 0)) := by
                    show _ = _
                    rw [takeNum_cons, if_neg HG.out, if_pos (by rw [← HV.out]; exact hmv)]
                  go_wp2_with fail
                  go_ret2
                  rw [R.out]
                  exact ⟨rfl, Drn.refl _⟩
                · have g : (v : Int) ≤ (most : Int) := by omega
                  have R : Hid (takeNum (c0 :: t) most = (v, 1 + c0.toNat)) := by
                    show _ = _
                    rw [takeNum_cons, if_neg HG.out, if_neg (by rw [← HV.out]; exact hmv), ← HV.out]
                  have w1 : IntKind.i64.wrap (1 + (c0.toNat : Int)) = 1 + (c0.toNat : Int) := IntWalk.i64_in _ (by omega)
                  clear hmv hj hj1 hj2
                  go_wp2_with fail
                  go_quiet (fail)
                  go_wp2_with fail
                  go_ret2
                  rw [R.out]
                  exact ⟨rfl, (Drn.refl _).draws _⟩
          · have gz : (0 : Int) < (c0.toNat : Int) := by omega
            have gzN : 0 < c0.toNat := by omega
            have gn : (1 : Int) < (n : Int) := by omega
            have gnN : 1 < n := by omega
            have ht0 : 0 < t.length := by omega
            have hx1 := List.getElem?_eq_getElem ht0
            generalize t[0] = x1 at hx1
            have hc1 := hr.cells (k := 1) (x := x1) (by rw [List.getElem?_cons_succ]; exact hx1)
            rw [add_one_at] at hc1
            have gx : ((x1.toNat : Int) == 0) = false := by
              rw [beq_eq_false_iff_ne]
              intro e
              refine hz ⟨by omega, ?_⟩
              rw [List.head?_eq_getElem?, hx1]
              congr 1
              exact UInt8.toNat_inj.1 (by show _ = 0; omega)
            clear hz hx1 ht0
            go_enter Tryd.func28, Tryd.ntmps28
            go_wp2_with fail
            go_loop [6, 7] (fun u i => ∃ j v : Nat, 1 ≤ j ∧ j ≤ c0.toNat + 1 ∧ u = .int .u64 v ∧ i = .int .i64 j ∧ Hid (v = beV (t.take (j - 1)))) (fun _ i => c0.toNat + 1 - (intOf i).toNat)
            case atStart => exact ⟨1, 0, Nat.le_refl _, by omega, rfl, rfl, rfl⟩
            case round =>
              obtain ⟨j, v, hj1, hj2, rfl, rfl, hV⟩ := hrel
              by_cases hj : j ≤ c0.toNat
              · have hjt : j - 1 < t.length := by omega
                have hx := List.getElem?_eq_getElem hjt
                generalize t[j - 1] = x at hx
                have hcx := hr.cells (k := j) (x := x) (by
                  have e : j = (j - 1) + 1 := by omega
                  rw [e, List.getElem?_cons_succ]
                  exact hx)
                have q1 : (0 : Int) ≤ (j : Int) := by omega
                have q2 : (j : Int) < (n : Int) := by omega
                have q3 : (j : Int) ≤ (c0.toNat : Int) := by omega
                have hvx : beV (t.take j) = v * 256 + x.toNat := by
                  have h := beV_take hx
                  rw [show j - 1 + 1 = j by omega] at h
                  rw [h, hV.out]
                have HW := Lib.hid (wrap_be (v := v) (n := x.toNat) (by rw [← hvx]; exact beV_take_lt t j (by omega)))
                have HV2 : Hid (v * 256 + x.toNat = beV (t.take (j + 1 - 1))) := hvx.symm
                clear hx hvx hV hjt
                go_wp2_with fail
                go_round
                case rel => exact ⟨j + 1, v * 256 + x.toNat, by omega, by omega, by rw [HW.out], by go_num, HV2⟩
                case measure => simp [intOf]; omega
              · have q3 : ¬ (j : Int) ≤ (c0.toNat : Int) := by omega
                have hv : v = beV (t.take c0.toNat) := by
                  rw [hV.out, show j - 1 = c0.toNat by omega]
                have HV := Lib.hid hv
                clear hv hV
                by_cases hmv : most < v
                · have g : (most : Int) < (v : Int) := by omega
                  have R : Hid (takeNum (c0 :: t) most = (0, 0)) := by
                    show _ = _
                    rw [takeNum_cons, if_neg HG.out, if_pos (by rw [← HV.out]; exact hmv)]
                  go_wp2_with fail
                  go_ret2
                  rw [R.out]
                  exact ⟨rfl, Drn.refl _⟩
                · have g : (v : Int) ≤ (most : Int) := by omega
                  have R : Hid (takeNum (c0 :: t) most = (v, 1 + c0.toNat)) := by
                    show _ = _
                    rw [takeNum_cons, if_neg HG.out, if_neg (by rw [← HV.out]; exact hmv), ← HV.out]
                  have w1 : IntKind.i64.wrap (1 + (c0.toNat : Int)) = 1 + (c0.toNat : Int) := IntWalk.i64_in _ (by omega)
                  clear hmv hj hj1 hj2
                  go_wp2_with fail
                  go_quiet (fail)
                  go_wp2_with fail
                  go_ret2
                  rw [R.out]
                  exact ⟨rfl, (Drn.refl _).draws _⟩
end Go.Proofs.YtahmjiomkaibgaaDoor

namespace Go.Proofs.YtahmjiomkaibgaaDoor
open Go.RowKit

theorem takeNum_lt (l : List UInt8) (most : Nat) : (takeNum l most).1 < 18446744073709551616 ∧ (takeNum l most).1 ≤ most ∧ (takeNum l most).2 ≤ 9 ∧ (takeNum l most).2 ≤ l.length := by
  generalize hp : takeNum l most = p
  obtain ⟨v, k⟩ := p
  by_cases h : k = 0
  · have h1 : v = 0 := by
      subst h
      cases l with
      | nil => unfold takeNum at hp; injection hp with e1 _; exact e1.symm
      | cons c t =>
        rw [takeNum_cons] at hp
        split at hp
        · injection hp with e1 _; exact e1.symm
        · split at hp
          · injection hp with e1 _; exact e1.symm
          · injection hp with _ e2; omega
    simp only
    omega
  · obtain ⟨a1, a2, a3, a4, a5, a6⟩ := num_take hp h
    have h2 := congrArg List.length a4
    rw [List.length_append, List.length_drop, ← a3] at h2
    simp only
    omega

theorem unz_odd {v : Nat} (hp : v % 2 = 1) (h : v < 18446744073709551616) : wrap64 (-1 - wrap64 (IntKind.u64.wrap ((v : Int) / 2))) = unzig v := by
  unfold unzig wrap64
  rw [if_pos hp]
  simp only [IntKind.wrap_u64]
  omega
theorem unz_even {v : Nat} (hp : ¬ v % 2 = 1) (h : v < 18446744073709551616) : wrap64 (IntKind.u64.wrap ((v : Int) / 2)) = unzig v := by
  unfold unzig wrap64
  rw [if_neg hp]
  simp only [IntKind.wrap_u64]
  omega

set_option maxRecDepth 100000 in
set_option maxHeartbeats 2000000 in
theorem refTakeInt_any {B : Nat} (A : Option Addr) (n c : Nat) (l : List UInt8) (w : World) (hn : l.length = n) (hr : RdB B w A l) (hm : n ≤ 1000000) :
    Calls Tryd.prog 29 #[.slice A n c] w fun e w' => e = .returned (.tuple #[.int .i64 (takeIntB l).1, .int .i64 ((takeIntB l).2 : Nat)]) ∧ Drn w w' := by
  have HN := Lib.hid hn
  have hlt := takeNum_lt l 18446744073709551615
  have hT : takeIntB l = (unzig (takeNum l 18446744073709551615).1, (takeNum l 18446744073709551615).2) := rfl
  have HC := Lib.hid (fun W hr => refTakeNumber_any (B := B) A n c l 18446744073709551615 W hn hr hm (by omega))
  rw [hT]
  generalize takeNum l 18446744073709551615 = r at HC hlt ⊢
  obtain ⟨v, k⟩ := r
  have HLT := Lib.hid hlt.1
  clear hn hlt hT
  go_enter Tryd.func29, Tryd.ntmps29
  go_wp2_with fail
  refine (HC.out w hr).mono ?_
  rintro e w1 ⟨rfl, hD⟩
  by_cases hp : v % 2 = 1
  · have e1 : ((v : Int) % 2 == 1) = true := by rw [beq_iff_eq]; omega
    go_wp2_with fail
    go_ret2
    exact ⟨congrArg (fun z => Ending.returned (.tuple #[.int .i64 z, .int .i64 (k : Nat)])) (unz_odd hp HLT.out), hD⟩
  · have e1 : ((v : Int) % 2 == 1) = false := by rw [beq_eq_false_iff_ne]; omega
    go_wp2_with fail
    go_ret2
    exact ⟨congrArg (fun z => Ending.returned (.tuple #[.int .i64 z, .int .i64 (k : Nat)])) (unz_even hp HLT.out), hD⟩

set_option maxRecDepth 100000 in
set_option maxHeartbeats 1000000 in
theorem refTakeFlag_any {B : Nat} (A : Option Addr) (n c : Nat) (l : List UInt8) (w : World) (hn : l.length = n) (hr : RdB B w A l) (hm : n ≤ 1000000) :
    Calls Tryd.prog 31 #[.slice A n c] w fun e w' => e = .returned (.tuple #[.bool (takeFlagB l).1, .int .i64 ((takeFlagB l).2 : Nat)]) ∧ w = w' := by
  cases l with
  | nil =>
    have n0 : n = 0 := by rw [← hn]; rfl
    subst n0
    clear hn hm
    go_enter Tryd.func31, Tryd.ntmps31
    go_wp2_with fail
    go_ret2
    exact ⟨rfl, rfl⟩
  | cons c0 t =>
    obtain ⟨ad, rfl, _, hc0⟩ := hr 0 c0 rfl
    rw [show ad.add 0 = ad from rfl] at hc0
    rw [List.length_cons] at hn
    have e0 : ((n : Int) == 0) = false := by rw [beq_eq_false_iff_ne]; omega
    have i0 : (0 : Int) < (n : Int) := by omega
    have i1 : 0 < n := by omega
    have hc := c0.toNat_lt
    by_cases h1 : 1 < c0.toNat
    · have g1 : (1 : Int) < (c0.toNat : Int) := by omega
      have g2 : 1 < c0.toNat := h1
      have R : Hid (takeFlagB (c0 :: t) = (false, 0)) := by show (if 1 < c0.toNat then _ else _) = _; rw [if_pos h1]
      clear hn hm hc h1
      go_enter Tryd.func31, Tryd.ntmps31
      go_wp2_with fail
      go_ret2
      rw [R.out]
      exact ⟨rfl, rfl⟩
    · have g1 : (c0.toNat : Int) ≤ 1 := by omega
      have R : Hid (takeFlagB (c0 :: t) = (c0 == 1, 1)) := by show (if 1 < c0.toNat then _ else _) = _; rw [if_neg h1]
      have e3 : ((c0.toNat : Int) == 1) = (c0 == 1) := by
        rw [Bool.eq_iff_iff, beq_iff_eq, beq_iff_eq]
        constructor
        · intro e
          exact UInt8.toNat_inj.1 (by show _ = 1; omega)
        · rintro rfl
          rfl
      clear hn hm hc h1
      go_enter Tryd.func31, Tryd.ntmps31
      go_wp2_with fail
      go_ret2
      rw [R.out]
      exact ⟨rfl, rfl⟩

set_option maxRecDepth 100000 in
set_option maxHeartbeats 2000000 in
theorem refTakeText_any {B : Nat} (A : Option Addr) (n c : Nat) (l : List UInt8) (most : Nat) (w : World) (hn : l.length = n) (hr : RdB B w A l) (hm : n ≤ 1000000) (hc : n ≤ c) (hmost : most ≤ 1000000) :
    Calls Tryd.prog 30 #[.slice A n c, .int .u64 most] w fun e w' => (∃ s : ByteArray, e = .returned (.tuple #[.string s, .int .i64 ((takeTextB l most).2 : Nat)]) ∧ s.data.toList = (takeTextB l most).1) ∧ Drn w w' := by
  have HN := Lib.hid hn
  have hlt := takeNum_lt l most
  have HC := Lib.hid (fun W hr => refTakeNumber_any (B := B) A n c l most W hn hr hm (by omega))
  have HT : Hid (takeTextB l most = if (takeNum l most).2 = 0 ∨ n - (takeNum l most).2 < (takeNum l most).1 then ([], 0) else ((l.drop (takeNum l most).2).take (takeNum l most).1, (takeNum l most).2 + (takeNum l most).1)) := by
    show takeTextB l most = _
    unfold takeTextB
    rw [hn]
  generalize takeNum l most = r at HC hlt HT ⊢
  obtain ⟨v, k⟩ := r
  simp only at hlt HT
  rw [hn] at hlt
  obtain ⟨_, l2, l3, l4⟩ := hlt
  have b1 : (v : Int) ≤ 1000000 := by omega
  have b2 : (k : Int) ≤ (n : Int) := by omega
  have b3 : (n : Int) ≤ 1000000 := by omega
  have b4 : (n : Int) ≤ (c : Int) := by omega
  clear hn
  by_cases hk : k = 0
  · have e0 : ((k : Int) == 0) = true := by rw [beq_iff_eq]; omega
    have R : Hid (takeTextB l most = ([], 0)) := by show _ = _; rw [HT.out, if_pos (Or.inl hk)]
    have HK := Lib.hid hk
    clear hk
    go_enter Tryd.func30, Tryd.ntmps30
    go_wp2_with fail
    refine (HC.out w hr).mono ?_
    rintro e w1 ⟨rfl, hD⟩
    go_wp2_with fail
    go_ret2
    rw [R.out]
    exact ⟨⟨_, rfl, rfl⟩, hD⟩
  · have e0 : ((k : Int) == 0) = false := by rw [beq_eq_false_iff_ne]; omega
    by_cases hv : n - k < v
    · have g1 : (n : Int) - (k : Int) < (v : Int) := by omega
      have g2 : (0 : Int) ≤ (n : Int) - (k : Int) := by omega
      have R : Hid (takeTextB l most = ([], 0)) := by show _ = _; rw [HT.out, if_pos (Or.inr hv)]
      clear hk hv
      go_enter Tryd.func30, Tryd.ntmps30
      go_wp2_with fail
      refine (HC.out w hr).mono ?_
      rintro e w1 ⟨rfl, hD⟩
      go_wp2_with fail
      go_ret2
      rw [R.out]
      exact ⟨⟨_, rfl, rfl⟩, hD⟩
    · have g1 : (v : Int) ≤ (n : Int) - (k : Int) := by omega
      have g2 : (0 : Int) ≤ (n : Int) - (k : Int) := by omega
      have g3 : (k : Int) + (v : Int) ≤ (c : Int) := by omega
      have g4 : (k : Int) ≤ (k : Int) + (v : Int) := by omega
      have R : Hid (takeTextB l most = ((l.drop k).take v, k + v)) := by show _ = _; rw [HT.out, if_neg (by rintro (h | h); exact hk h; exact hv h)]
      have hlen : ((l.drop k).take v).length = v := by
        have := HN.out
        rw [List.length_take, List.length_drop]
        omega
      have HL := Lib.hid hlen
      have hlc : l.length ≤ c := by rw [HN.out]; exact hc
      have HLC := Lib.hid hlc
      clear hk hv hlen hlc
      by_cases hck : c = k
      · have hr0 : RdB B w A ((l.drop k).take v) := by
          have h := (hr.drop (m := k) HLC.out).take v
          rwa [if_pos hck] at h
        have hv0 : v = 0 := by omega
        have HV := Lib.hid hv0
        clear hv0 hr0
        subst hck
        go_enter Tryd.func30, Tryd.ntmps30
        go_wp2_with fail
        refine (HC.out w hr).mono ?_
        rintro e w1 ⟨rfl, hD⟩
        have hcv := conv_rd w1 A 0 0 [] rfl (RdB.nil B w1 A)
        go_wp2_with fail
        go_ret2
        rw [R.out]
        exact ⟨⟨_, rfl, (List.eq_nil_of_length_eq_zero (by rw [HL.out, HV.out])).symm⟩, hD⟩
      · have hr0 : RdB B w (A.map (·.add k)) ((l.drop k).take v) := by
          have h := (hr.drop (m := k) HLC.out).take v
          rwa [if_neg hck] at h
        have HR0 := Lib.hid hr0
        have hck2 : (c == k) = false := by simpa using hck
        clear hr0
        go_enter Tryd.func30, Tryd.ntmps30
        go_wp2_with fail
        refine (HC.out w hr).mono ?_
        rintro e w1 ⟨rfl, hD⟩
        have hcv := conv_rd w1 (A.map (·.add k)) v (c - k) _ HL.out (HR0.out.keep (hD.below B) (Nat.le_refl _))
        go_wp2_with fail
        go_ret2
        rw [R.out]
        exact ⟨⟨_, rfl, rfl⟩, hD⟩
end Go.Proofs.YtahmjiomkaibgaaDoor

namespace Go.Proofs.YtahmjiomkaibgaaDoor
open Go.RowKit

/-- A value, taken: kind, number, text; how many bytes. -/
def takeValC (v k : Nat) (b : List UInt8) : (Int × Int × List UInt8) × Nat :=
  if k = 0 ∨ v = 0 then ((0, 0, []), k)
  else if v = 1 then (if (takeIntB (b.drop k)).2 = 0 then ((0, 0, []), 0) else ((1, (takeIntB (b.drop k)).1, []), k + (takeIntB (b.drop k)).2))
  else (if (takeTextB (b.drop k) 40).2 = 0 then ((0, 0, []), 0) else ((2, 0, (takeTextB (b.drop k) 40).1), k + (takeTextB (b.drop k) 40).2))
def takeValB (b : List UInt8) : (Int × Int × List UInt8) × Nat := takeValC (takeNum b 2).1 (takeNum b 2).2 b
/-- What TakeValue answers. -/
def TakeVP (r : (Int × Int × List UInt8) × Nat) (w : World) (e : Ending) (w' : World) : Prop :=
  (∃ s : ByteArray, e = .returned (.tuple #[.agg #[.int .i64 r.1.1, .int .i64 r.1.2.1, .string s], .int .i64 (r.2 : Nat)]) ∧ s.data.toList = r.1.2.2) ∧ Below w.heap.size w w'

set_option maxHeartbeats 400000 in
theorem refIntV_any (n : Int) (w : World) :
    Calls Tryd.prog 58 #[.int .i64 n] w fun e w' => e = .returned (.agg #[.int .i64 1, .int .i64 n, .string ⟨#[]⟩]) ∧ Below w.heap.size w w' := by
  go_enter Tryd.func58, Tryd.ntmps58
  go_wp2
  exact bodyPost_ret (v := .agg #[.int .i64 1, .int .i64 n, .string ⟨#[]⟩]) (by simp [results, Tryd.results58, go_sem]) rfl ⟨rfl, (Below.refl _ _).alloc (Nat.le_refl _) _⟩
theorem takeText_le (l : List UInt8) (most : Nat) : (takeTextB l most).2 ≤ l.length := by
  unfold takeTextB
  have h := takeNum_lt l most
  split
  · simp
  · rename_i h1
    have h2 : ¬ l.length - (takeNum l most).2 < (takeNum l most).1 := fun e => h1 (Or.inr e)
    simp only
    omega
theorem takeInt_le (l : List UInt8) : (takeIntB l).2 ≤ l.length := (takeNum_lt l 18446744073709551615).2.2.2
theorem takeInt_nil : takeIntB [] = (0, 0) := rfl
theorem takeText_nil (most : Nat) : takeTextB [] most = ([], 0) := rfl
/-- A slice cut off at its front, in the model's two forms. -/
theorem cut_cases {B : Nat} {w : World} {A : Option Addr} {n c k : Nat} {l : List UInt8} (hr : RdB B w A l) (hn : l.length = n) (hk : k ≤ n) (hc : n ≤ c) :
    (c = k ∧ n = k ∧ l.drop k = []) ∨ (c ≠ k ∧ RdB B w (A.map (·.add k)) (l.drop k) ∧ (l.drop k).length = n - k) := by
  by_cases h : c = k
  · exact Or.inl ⟨h, by omega, List.drop_eq_nil_of_le (by omega)⟩
  · have h1 := hr.drop (m := k) (c := c) (by omega)
    rw [if_neg h] at h1
    exact Or.inr ⟨h, h1, by rw [List.length_drop, hn]⟩
theorem below3b {w W : World} {b : Nat} (h : Below w.heap.size w W) (hb : w.heap.size ≤ b) (v0 v1 v2 : Value) : Below w.heap.size w (((W.setCell ⟨b, 0, none⟩ v0).setCell ⟨b, 1, none⟩ v1).setCell ⟨b, 2, none⟩ v2) :=
  ((h.setCell (p := ⟨b, 0, none⟩) hb v0).setCell (p := ⟨b, 1, none⟩) hb v1).setCell (p := ⟨b, 2, none⟩) hb v2
theorem dr_below {w a b : World} (h : Below w.heap.size w a) (k : Drn a b) : Below w.heap.size w b := bt h (k.below _)

set_option maxRecDepth 100000 in
set_option maxHeartbeats 4000000 in
theorem refTakeValue_any {B : Nat} (A : Option Addr) (n c : Nat) (l : List UInt8) (w : World) (hn : l.length = n) (hr : RdB B w A l) (hB : B ≤ w.heap.size) (hm : n ≤ 1000000) (hc : n ≤ c) :
    Calls Tryd.prog 32 #[.slice A n c] w fun e w' => TakeVP (takeValB l) w e w' := by
  have HN := Lib.hid hn
  have hlt := takeNum_lt l 2
  have HC := Lib.hid (fun W hr => refTakeNumber_any (B := B) A n c l 2 W hn hr hm (by omega))
  have HT : Hid (takeValB l = takeValC (takeNum l 2).1 (takeNum l 2).2 l) := rfl
  generalize takeNum l 2 = r at HC hlt HT ⊢
  obtain ⟨v, k⟩ := r
  simp only at hlt HT
  rw [hn] at hlt
  obtain ⟨_, l2, l3, l4⟩ := hlt
  have b2 : (k : Int) ≤ (n : Int) := by omega
  have b3 : (n : Int) ≤ 1000000 := by omega
  have b4 : (n : Int) ≤ (c : Int) := by omega
  have b5 : (k : Int) ≤ (c : Int) := by omega
  have b6 : (0 : Int) ≤ (k : Int) := by omega
  have HCUT := Lib.hid (fun W (h : RdB B W A l) => cut_cases h hn l4 hc)
  clear hn
  by_cases hk : k = 0
  · have e0 : ((k : Int) == 0) = true := by rw [beq_iff_eq]; omega
    have R : Hid (takeValB l = ((0, 0, []), k)) := by show _ = _; rw [HT.out]; exact if_pos (Or.inl hk)
    have RR := R.out
    clear hk R
    go_enter Tryd.func32, Tryd.ntmps32
    go_wp2_with fail
    have hK := blk_new w #[.int .i64 0, .int .i64 0, .string ⟨#[]⟩] 44
    have hB0 := b0 w (.cells #[.int .i64 0, .int .i64 0, .string ⟨#[]⟩] 44)
    generalize w.alloc (.cells #[.int .i64 0, .int .i64 0, .string ⟨#[]⟩] 44) = W at hK hB0 ⊢
    have hrW := hr.keep hB0 hB
    refine (HC.out W hrW).mono ?_
    rintro e w1 ⟨rfl, hD⟩
    have hr1 := hrW.keep (hD.below B) (Nat.le_refl _)
    have hB1 := dr_below hB0 hD
    have hK1 := hK.keep (hD.below _)
    clear hK hB0 hrW hD
    generalize hq : w.heap.size = b at hK1 ⊢
    have hbw : w.heap.size ≤ b := Nat.le_of_eq hq
    clear hq
    obtain ⟨c0, c1, c2, c3⟩ := hK1.c3
    obtain ⟨f0, f1, f2⟩ := hK1.f3
    go_wp2_with fail
    exact bodyPost_ret (v := .tuple #[.agg #[.int .i64 0, .int .i64 0, .string ⟨#[]⟩], .int .i64 (k : Nat)]) (by simp [results, Tryd.results32, go_sem, c0, c1, c2]) rfl (by rw [RR]; exact ⟨⟨_, rfl, rfl⟩, below3b hB1 hbw _ _ _⟩)
  · have e0 : ((k : Int) == 0) = false := by rw [beq_eq_false_iff_ne]; omega
    have hv : v = 0 ∨ v = 1 ∨ v = 2 := by omega
    rcases hv with rfl | rfl | rfl
    · have RR : takeValB l = ((0, 0, []), k) := by rw [HT.out]; exact if_pos (Or.inr rfl)
      have R := Lib.hid RR
      clear RR hk
      go_enter Tryd.func32, Tryd.ntmps32
      go_wp2_with fail
      have hK := blk_new w #[.int .i64 0, .int .i64 0, .string ⟨#[]⟩] 44
      have hB0 := b0 w (.cells #[.int .i64 0, .int .i64 0, .string ⟨#[]⟩] 44)
      generalize w.alloc (.cells #[.int .i64 0, .int .i64 0, .string ⟨#[]⟩] 44) = W at hK hB0 ⊢
      have hrW := hr.keep hB0 hB
      refine (HC.out W hrW).mono ?_
      rintro e w1 ⟨rfl, hD⟩
      have hr1 := hrW.keep (hD.below B) (Nat.le_refl _)
      have hB1 := dr_below hB0 hD
      have hK1 := hK.keep (hD.below _)
      clear hK hB0 hrW hD
      generalize hq : w.heap.size = b at hK1 ⊢
      have hbw : w.heap.size ≤ b := Nat.le_of_eq hq
      clear hq
      obtain ⟨c0, c1, c2, c3⟩ := hK1.c3
      obtain ⟨f0, f1, f2⟩ := hK1.f3
      go_wp2_with fail
      exact bodyPost_ret (v := .tuple #[.agg #[.int .i64 0, .int .i64 0, .string ⟨#[]⟩], .int .i64 (k : Nat)]) (by simp [results, Tryd.results32, go_sem, c0, c1, c2]) rfl (by rw [R.out]; exact ⟨⟨_, rfl, rfl⟩, below3b hB1 hbw _ _ _⟩)
    · rcases HCUT.out w hr with ⟨hck, hnk, hnil⟩ | ⟨hck, hr5, hl5⟩
      · have R : Hid (takeValB l = ((0, 0, []), 0)) := by
          show _ = _
          rw [HT.out]; unfold takeValC; rw [if_neg (by omega), if_pos rfl]
          rw [hnil]
          rfl
        subst hck
        subst hnk
        clear hk
        go_enter Tryd.func32, Tryd.ntmps32
        go_wp2_with fail
        have hK := blk_new w #[.int .i64 0, .int .i64 0, .string ⟨#[]⟩] 44
        have hB0 := b0 w (.cells #[.int .i64 0, .int .i64 0, .string ⟨#[]⟩] 44)
        generalize w.alloc (.cells #[.int .i64 0, .int .i64 0, .string ⟨#[]⟩] 44) = W at hK hB0 ⊢
        have hrW := hr.keep hB0 hB
        refine (HC.out W hrW).mono ?_
        rintro e w1 ⟨rfl, hD⟩
        have hr1 := hrW.keep (hD.below B) (Nat.le_refl _)
        have hB1 := dr_below hB0 hD
        have hK1 := hK.keep (hD.below _)
        clear hK hB0 hrW hD
        generalize hq : w.heap.size = b at hK1 ⊢
        have hbw : w.heap.size ≤ b := Nat.le_of_eq hq
        clear hq
        obtain ⟨c0, c1, c2, c3⟩ := hK1.c3
        obtain ⟨f0, f1, f2⟩ := hK1.f3
        go_wp2_with fail
        refine (refTakeInt_any A 0 0 [] _ rfl (RdB.nil B w1 A) (by omega)).mono ?_
        rintro e w2 ⟨rfl, hD2⟩
        rw [takeInt_nil]
        skip
        have hB2 := dr_below hB1 hD2
        have hK2 := hK1.keep (hD2.below _)
        clear c0 c1 c2 c3 f0 f1 f2
        obtain ⟨c0, c1, c2, c3⟩ := hK2.c3
        obtain ⟨f0, f1, f2⟩ := hK2.f3
        go_wp2_with fail
        exact bodyPost_ret (v := .tuple #[.agg #[.int .i64 0, .int .i64 0, .string ⟨#[]⟩], .int .i64 0]) (by simp [results, Tryd.results32, go_sem, c0, c1, c2]) rfl (by rw [R.out]; exact ⟨⟨_, rfl, rfl⟩, below3b hB2 hbw _ _ _⟩)
      · have HX : Hid (takeIntB (l.drop k) = (takeIntB (l.drop k))) := rfl
        generalize hq : takeIntB (l.drop k) = q at HX
        obtain ⟨x, m⟩ := q
        have hml : m ≤ n - k := by
          have h := takeInt_le (l.drop k)
          rw [hq, hl5] at h
          exact h
        have HQ := Lib.hid hq
        have HL5 := Lib.hid hl5
        have HR5 := Lib.hid hr5
        have hck2 : (c == k) = false := by simpa using hck
        clear hq hl5 hr5 HX
        by_cases h0 : m = 0
        · have R : Hid (takeValB l = ((0, 0, []), 0)) := by
            show _ = _
            rw [HT.out]; unfold takeValC; rw [if_neg (by omega), if_pos rfl]
            rw [HQ.out]
            exact if_pos h0
          have e1 : ((m : Int) == 0) = true := by rw [beq_iff_eq]; omega
          clear h0 hk
          go_enter Tryd.func32, Tryd.ntmps32
          go_wp2_with fail
          have hK := blk_new w #[.int .i64 0, .int .i64 0, .string ⟨#[]⟩] 44
          have hB0 := b0 w (.cells #[.int .i64 0, .int .i64 0, .string ⟨#[]⟩] 44)
          generalize w.alloc (.cells #[.int .i64 0, .int .i64 0, .string ⟨#[]⟩] 44) = W at hK hB0 ⊢
          have hrW := hr.keep hB0 hB
          refine (HC.out W hrW).mono ?_
          rintro e w1 ⟨rfl, hD⟩
          have hr1 := hrW.keep (hD.below B) (Nat.le_refl _)
          have hB1 := dr_below hB0 hD
          have hK1 := hK.keep (hD.below _)
          clear hK hB0 hrW hD
          generalize hq : w.heap.size = b at hK1 ⊢
          have hbw : w.heap.size ≤ b := Nat.le_of_eq hq
          clear hq
          obtain ⟨c0, c1, c2, c3⟩ := hK1.c3
          obtain ⟨f0, f1, f2⟩ := hK1.f3
          go_wp2_with fail
          have hr5 := (HCUT.out w1 hr1).resolve_left (fun h => hck h.1) |>.2.1
          refine (refTakeInt_any (A.map (·.add k)) (n - k) (c - k) (l.drop k) _ HL5.out hr5 (by omega)).mono ?_
          rintro e w2 ⟨rfl, hD2⟩
          rw [HQ.out]
          have hB2 := dr_below hB1 hD2
          have hK2 := hK1.keep (hD2.below _)
          clear c0 c1 c2 c3 f0 f1 f2
          obtain ⟨c0, c1, c2, c3⟩ := hK2.c3
          obtain ⟨f0, f1, f2⟩ := hK2.f3
          go_wp2_with fail
          exact bodyPost_ret (v := .tuple #[.agg #[.int .i64 0, .int .i64 0, .string ⟨#[]⟩], .int .i64 0]) (by simp [results, Tryd.results32, go_sem, c0, c1, c2]) rfl (by rw [R.out]; exact ⟨⟨_, rfl, rfl⟩, below3b hB2 hbw _ _ _⟩)
        · have R : Hid (takeValB l = ((1, x, []), k + m)) := by
            show _ = _
            rw [HT.out]; unfold takeValC; rw [if_neg (by omega), if_pos rfl]
            rw [HQ.out]
            exact if_neg h0
          have e1 : ((m : Int) == 0) = false := by rw [beq_eq_false_iff_ne]; omega
          clear h0 hk
          go_enter Tryd.func32, Tryd.ntmps32
          go_wp2_with fail
          have hK := blk_new w #[.int .i64 0, .int .i64 0, .string ⟨#[]⟩] 44
          have hB0 := b0 w (.cells #[.int .i64 0, .int .i64 0, .string ⟨#[]⟩] 44)
          generalize w.alloc (.cells #[.int .i64 0, .int .i64 0, .string ⟨#[]⟩] 44) = W at hK hB0 ⊢
          have hrW := hr.keep hB0 hB
          refine (HC.out W hrW).mono ?_
          rintro e w1 ⟨rfl, hD⟩
          have hr1 := hrW.keep (hD.below B) (Nat.le_refl _)
          have hB1 := dr_below hB0 hD
          have hK1 := hK.keep (hD.below _)
          clear hK hB0 hrW hD
          generalize hq : w.heap.size = b at hK1 ⊢
          have hbw : w.heap.size ≤ b := Nat.le_of_eq hq
          clear hq
          obtain ⟨c0, c1, c2, c3⟩ := hK1.c3
          obtain ⟨f0, f1, f2⟩ := hK1.f3
          go_wp2_with fail
          have hr5 := (HCUT.out w1 hr1).resolve_left (fun h => hck h.1) |>.2.1
          refine (refTakeInt_any (A.map (·.add k)) (n - k) (c - k) (l.drop k) _ HL5.out hr5 (by omega)).mono ?_
          rintro e w2 ⟨rfl, hD2⟩
          rw [HQ.out]
          have hB2 := dr_below hB1 hD2
          have hK2 := hK1.keep (hD2.below _)
          clear c0 c1 c2 c3 f0 f1 f2
          obtain ⟨c0, c1, c2, c3⟩ := hK2.c3
          obtain ⟨f0, f1, f2⟩ := hK2.f3
          go_wp2_with fail
          refine (refIntV_any x _).mono ?_
          rintro e w3 ⟨rfl, hb3⟩
          have hB3 := bt hB2 hb3
          have hK3 := hK2.keep hb3
          clear c0 c1 c2 c3 f0 f1 f2
          obtain ⟨c0, c1, c2, c3⟩ := hK3.c3
          obtain ⟨f0, f1, f2⟩ := hK3.f3
          go_wp2_with fail
          exact bodyPost_ret (v := .tuple #[.agg #[.int .i64 1, .int .i64 x, .string ⟨#[]⟩], .int .i64 (k + m : Nat)]) (by simp [results, Tryd.results32, go_sem, c0, c1, c2]) rfl (by rw [R.out]; exact ⟨⟨_, rfl, rfl⟩, below3b hB3 hbw _ _ _⟩)
    · rcases HCUT.out w hr with ⟨hck, hnk, hnil⟩ | ⟨hck, hr5, hl5⟩
      · have R : Hid (takeValB l = ((0, 0, []), 0)) := by
          show _ = _
          rw [HT.out]; unfold takeValC; rw [if_neg (by omega), if_neg (by omega)]
          rw [hnil]
          rfl
        subst hck
        subst hnk
        clear hk
        go_enter Tryd.func32, Tryd.ntmps32
        go_wp2_with fail
        have hK := blk_new w #[.int .i64 0, .int .i64 0, .string ⟨#[]⟩] 44
        have hB0 := b0 w (.cells #[.int .i64 0, .int .i64 0, .string ⟨#[]⟩] 44)
        generalize w.alloc (.cells #[.int .i64 0, .int .i64 0, .string ⟨#[]⟩] 44) = W at hK hB0 ⊢
        have hrW := hr.keep hB0 hB
        refine (HC.out W hrW).mono ?_
        rintro e w1 ⟨rfl, hD⟩
        have hr1 := hrW.keep (hD.below B) (Nat.le_refl _)
        have hB1 := dr_below hB0 hD
        have hK1 := hK.keep (hD.below _)
        clear hK hB0 hrW hD
        generalize hq : w.heap.size = b at hK1 ⊢
        have hbw : w.heap.size ≤ b := Nat.le_of_eq hq
        clear hq
        obtain ⟨c0, c1, c2, c3⟩ := hK1.c3
        obtain ⟨f0, f1, f2⟩ := hK1.f3
        go_wp2_with fail
        refine (refTakeText_any A 0 0 [] 40 _ rfl (RdB.nil B w1 A) (by omega) (by omega) (by omega)).mono ?_
        rintro e w2 ⟨⟨s2, rfl, hs2⟩, hD2⟩
        rw [takeText_nil 40] at hs2 ⊢
        clear hs2
        have hB2 := dr_below hB1 hD2
        have hK2 := hK1.keep (hD2.below _)
        clear c0 c1 c2 c3 f0 f1 f2
        obtain ⟨c0, c1, c2, c3⟩ := hK2.c3
        obtain ⟨f0, f1, f2⟩ := hK2.f3
        go_wp2_with fail
        exact bodyPost_ret (v := .tuple #[.agg #[.int .i64 0, .int .i64 0, .string ⟨#[]⟩], .int .i64 0]) (by simp [results, Tryd.results32, go_sem, c0, c1, c2]) rfl (by rw [R.out]; exact ⟨⟨_, rfl, rfl⟩, below3b hB2 hbw _ _ _⟩)
      · have HX : Hid (takeTextB (l.drop k) 40 = (takeTextB (l.drop k) 40)) := rfl
        generalize hq : takeTextB (l.drop k) 40 = q at HX
        obtain ⟨x, m⟩ := q
        have hml : m ≤ n - k := by
          have h := takeText_le (l.drop k) 40
          rw [hq, hl5] at h
          exact h
        have HQ := Lib.hid hq
        have HL5 := Lib.hid hl5
        have HR5 := Lib.hid hr5
        have hck2 : (c == k) = false := by simpa using hck
        clear hq hl5 hr5 HX
        by_cases h0 : m = 0
        · have R : Hid (takeValB l = ((0, 0, []), 0)) := by
            show _ = _
            rw [HT.out]; unfold takeValC; rw [if_neg (by omega), if_neg (by omega)]
            rw [HQ.out]
            exact if_pos h0
          have e1 : ((m : Int) == 0) = true := by rw [beq_iff_eq]; omega
          clear h0 hk
          go_enter Tryd.func32, Tryd.ntmps32
          go_wp2_with fail
          have hK := blk_new w #[.int .i64 0, .int .i64 0, .string ⟨#[]⟩] 44
          have hB0 := b0 w (.cells #[.int .i64 0, .int .i64 0, .string ⟨#[]⟩] 44)
          generalize w.alloc (.cells #[.int .i64 0, .int .i64 0, .string ⟨#[]⟩] 44) = W at hK hB0 ⊢
          have hrW := hr.keep hB0 hB
          refine (HC.out W hrW).mono ?_
          rintro e w1 ⟨rfl, hD⟩
          have hr1 := hrW.keep (hD.below B) (Nat.le_refl _)
          have hB1 := dr_below hB0 hD
          have hK1 := hK.keep (hD.below _)
          clear hK hB0 hrW hD
          generalize hq : w.heap.size = b at hK1 ⊢
          have hbw : w.heap.size ≤ b := Nat.le_of_eq hq
          clear hq
          obtain ⟨c0, c1, c2, c3⟩ := hK1.c3
          obtain ⟨f0, f1, f2⟩ := hK1.f3
          go_wp2_with fail
          have hr5 := (HCUT.out w1 hr1).resolve_left (fun h => hck h.1) |>.2.1
          refine (refTakeText_any (A.map (·.add k)) (n - k) (c - k) (l.drop k) 40 _ HL5.out hr5 (by omega) (by omega) (by omega)).mono ?_
          rintro e w2 ⟨⟨s2, rfl, hs2⟩, hD2⟩
          rw [HQ.out] at hs2 ⊢
          have hB2 := dr_below hB1 hD2
          have hK2 := hK1.keep (hD2.below _)
          clear c0 c1 c2 c3 f0 f1 f2
          obtain ⟨c0, c1, c2, c3⟩ := hK2.c3
          obtain ⟨f0, f1, f2⟩ := hK2.f3
          go_wp2_with fail
          exact bodyPost_ret (v := .tuple #[.agg #[.int .i64 0, .int .i64 0, .string ⟨#[]⟩], .int .i64 0]) (by simp [results, Tryd.results32, go_sem, c0, c1, c2]) rfl (by rw [R.out]; exact ⟨⟨_, rfl, rfl⟩, below3b hB2 hbw _ _ _⟩)
        · have R : Hid (takeValB l = ((2, 0, x), k + m)) := by
            show _ = _
            rw [HT.out]; unfold takeValC; rw [if_neg (by omega), if_neg (by omega)]
            rw [HQ.out]
            exact if_neg h0
          have e1 : ((m : Int) == 0) = false := by rw [beq_eq_false_iff_ne]; omega
          clear h0 hk
          go_enter Tryd.func32, Tryd.ntmps32
          go_wp2_with fail
          have hK := blk_new w #[.int .i64 0, .int .i64 0, .string ⟨#[]⟩] 44
          have hB0 := b0 w (.cells #[.int .i64 0, .int .i64 0, .string ⟨#[]⟩] 44)
          generalize w.alloc (.cells #[.int .i64 0, .int .i64 0, .string ⟨#[]⟩] 44) = W at hK hB0 ⊢
          have hrW := hr.keep hB0 hB
          refine (HC.out W hrW).mono ?_
          rintro e w1 ⟨rfl, hD⟩
          have hr1 := hrW.keep (hD.below B) (Nat.le_refl _)
          have hB1 := dr_below hB0 hD
          have hK1 := hK.keep (hD.below _)
          clear hK hB0 hrW hD
          generalize hq : w.heap.size = b at hK1 ⊢
          have hbw : w.heap.size ≤ b := Nat.le_of_eq hq
          clear hq
          obtain ⟨c0, c1, c2, c3⟩ := hK1.c3
          obtain ⟨f0, f1, f2⟩ := hK1.f3
          go_wp2_with fail
          have hr5 := (HCUT.out w1 hr1).resolve_left (fun h => hck h.1) |>.2.1
          refine (refTakeText_any (A.map (·.add k)) (n - k) (c - k) (l.drop k) 40 _ HL5.out hr5 (by omega) (by omega) (by omega)).mono ?_
          rintro e w2 ⟨⟨s2, rfl, hs2⟩, hD2⟩
          rw [HQ.out] at hs2 ⊢
          have hB2 := dr_below hB1 hD2
          have hK2 := hK1.keep (hD2.below _)
          clear c0 c1 c2 c3 f0 f1 f2
          obtain ⟨c0, c1, c2, c3⟩ := hK2.c3
          obtain ⟨f0, f1, f2⟩ := hK2.f3
          go_wp2_with fail
          exact bodyPost_ret (v := .tuple #[.agg #[.int .i64 2, .int .i64 0, .string s2], .int .i64 (k + m : Nat)]) (by simp [results, Tryd.results32, go_sem, c0, c1, c2]) rfl (by rw [R.out]; exact ⟨⟨_, rfl, hs2⟩, below3b hB2 hbw _ _ _⟩)
end Go.Proofs.YtahmjiomkaibgaaDoor
