/-
  WHAT IS PROVED: the document's reading of any text (of at most 1000 bytes) is the plain function readV.
-/
import Derived.Test.YtmilcgikncecnaaDoorRefRead
import Derived.Test.YtmilcgikncecnaaDoorReadMath2
import Derived.Test.YtmilcgikncecnaaDoorReadInt
import Derived.Deep.DeepCutAuto
namespace Go.Proofs.YtmilcgikncecnaaDoor
open Go.RowKit

theorem num_of {l : List UInt8} (h1 : l ≠ []) (h2 : l.all isDig = true) (h3 : l.length ≤ 1 ∨ l.head? ≠ some 48) : isNum l = true := by
  have e1 : l.isEmpty = false := by simpa using h1
  simp only [isNum, e1, h2, Bool.not_false, Bool.true_and, Bool.or_eq_true, decide_eq_true_eq, bne_iff_ne]
  exact h3
theorem num_empty : isNum [] = false := rfl
theorem readI_form {s : List UInt8} (h : isNum (stripNeg s) = false ∨ (isNeg s = true ∧ stripNeg s = [48])) : readI s = (0, 0, [], 2) := by
  unfold readI
  rw [if_pos h]
theorem readI_num {s : List UInt8} (h1 : isNum (stripNeg s) = true) (h2 : ¬ (isNeg s = true ∧ stripNeg s = [48])) :
    readI s = if isNeg s = true then (if natFrom 0 (stripNeg s) ≤ 9223372036854775808 then (1, -(natFrom 0 (stripNeg s) : Int), [], 0) else (0, 0, [], 1)) else if natFrom 0 (stripNeg s) ≤ 9223372036854775807 then (1, natFrom 0 (stripNeg s), [], 0) else (0, 0, [], 1) := by
  unfold readI
  rw [if_neg]
  rw [h1]
  simpa using h2
theorem natFrom_take (l : List UInt8) (k : Nat) (c : UInt8) (h : l[k]? = some c) : natFrom 0 (l.take (k + 1)) = natFrom 0 (l.take k) * 10 + (c.toNat - 48) := by
  have hk : k < l.length := (List.getElem?_eq_some_iff.1 h).1
  rw [List.take_succ_eq_append_getElem hk, natFrom_append, natFrom_one]
  rw [(List.getElem?_eq_some_iff.1 h).2]
theorem natFrom_mono (l : List UInt8) (k : Nat) : natFrom 0 (l.take k) ≤ natFrom 0 l := by
  have e : natFrom 0 l = natFrom (natFrom 0 (l.take k)) (l.drop k) := by rw [← natFrom_append, List.take_append_drop]
  rw [e]
  exact natFrom_ge _ _
theorem u64_neg (n : Int) (h0 : 0 ≤ n) (h1 : n ≤ 9223372036854775808) : wrap64 (IntKind.u64.wrap (-n)) = -n := by
  have hb : IntKind.u64.bits = 64 := rfl
  have hs : IntKind.u64.signed = false := rfl
  have h64 : (2 : Int) ^ 64 = 18446744073709551616 := by decide
  simp only [IntKind.wrap, hb, hs, Bool.false_and, Bool.false_eq_true, if_false, h64]
  unfold wrap64
  omega

theorem int_neg (a : Int) (a0 : 0 ≤ a) (a1 : a ≤ 9223372036854775808) (w : World) :
    Calls Tryd.prog 21 #[.int .i64 (wrap64 (IntKind.u64.wrap (-a)))] w fun e w' => e = .returned (.agg #[.int .i64 1, .int .i64 (-a), .string ⟨#[]⟩]) ∧ Below w.heap.size w w' := by
  rw [u64_neg a a0 a1]
  exact refInt_any _ _

set_option maxRecDepth 100000 in
set_option maxHeartbeats 2000000 in
theorem refInt_minus (w : World) :
    Calls Tryd.prog 35 #[.string ⟨#[45]⟩] w fun e w' => e = .returned (rvOf (0, 0, [], 2)) ∧ Below w.heap.size w w' := by
  have hx : (⟨#[45]⟩ : ByteArray).extract 1 1 = ⟨#[]⟩ := by decide
  go_enter Tryd.func35, Tryd.ntmps35
  go_wp2_with fail
  exact bodyPost_ret (v := rvOf (0, 0, [], 2)) (by simp [results, Tryd.results35, go_sem, rvOf]) rfl ⟨rfl, b0 _ _⟩
set_option maxRecDepth 100000 in
set_option maxHeartbeats 2000000 in
theorem refInt_empty (w : World) :
    Calls Tryd.prog 35 #[.string ⟨#[]⟩] w fun e w' => e = .returned (rvOf (0, 0, [], 2)) ∧ Below w.heap.size w w' := by
  go_enter Tryd.func35, Tryd.ntmps35
  go_wp2_with fail
  exact bodyPost_ret (v := rvOf (0, 0, [], 2)) (by simp [results, Tryd.results35, go_sem, rvOf]) rfl ⟨rfl, b0 _ _⟩

set_option maxRecDepth 100000 in
set_option maxHeartbeats 16000000 in
theorem refInt_neg (s d : ByteArray) (w : World) (hs : s.size ≤ 1000) (n1 : (s.toList == [110, 105, 108]) = false) (h0 : 0 < s.size) (hq : 2 ≤ s.size) (h45 : s[0] = 45) (hd : d = s.extract 1 s.size) :
    Calls Tryd.prog 35 #[.string s] w fun e w' => e = .returned (rvOf (readI s.data.toList)) ∧ Below w.heap.size w w' := by
  have e34 : ((s[0].toNat : Int) == 34) = false := by rw [h45]; rfl
  have e45 : ((s[0].toNat : Int) == 45) = true := by rw [h45]; rfl
  have E : s.toList.isEmpty = false := by
    cases hx : s.toList.isEmpty with
    | false => rfl
    | true => exact absurd ((isEmpty_iff s).1 hx) (by omega)
  have i1 : (0 : Int) < (s.size : Int) := by omega
  have i2 : (1 : Int) ≤ (s.size : Int) := by omega
  have g1 : (2 : Int) ≤ (s.size : Int) := by omega
  have hcons := cons_of s h0
  have hsh : s.data.toList.head? = some 45 := by rw [hcons, h45]; rfl
  have hdl : d.data.toList = s.data.toList.drop 1 := by rw [hd, extract_tail]
  have HS : Hid (stripNeg s.data.toList = d.data.toList) := by
    show _ = _
    rw [hdl, hcons, h45]
    rfl
  have HN : Hid (isNeg s.data.toList = true) := by
    show _ = _
    rw [hcons, h45]
    rfl
  have hds : d.size + 1 = s.size := by
    have l1 : d.data.toList.length = d.size := Array.length_toList
    have l2 : s.data.toList.length = s.size := Array.length_toList
    rw [hdl, List.length_drop] at l1
    omega
  have hdlt : d.size < s.size := by omega
  have hdlt' : (d.size : Int) < (s.size : Int) := by omega
  have Hd := Lib.hid hd
  have HSH := Lib.hid hds
  clear hd hdl hcons h45 hds
  go_enter Tryd.func35, Tryd.ntmps35
  go_upto_region 8 with (fail)
  rw [← Hd.out]
  have HL : Hid (d.data.toList.length = d.size) := Array.length_toList
  by_cases z : d.size = 0
  · have E2 := (isEmpty_iff d).2 z
    have R : Hid (readI s.data.toList = (0, 0, [], 2)) := by
      refine readI_form (Or.inl ?_)
      rw [HS.out, List.length_eq_zero_iff.1 (HL.out.trans z)]
      rfl
    clear z
    go_wp2_with fail
    rw [R.out]
    exact bodyPost_ret (v := rvOf (0, 0, [], 2)) (by simp [results, Tryd.results35, go_sem, rvOf]) rfl ⟨rfl, b0 _ _⟩
  · have l0 : 0 < d.size := by omega
    have E2 : d.toList.isEmpty = false := by
      cases hx : d.toList.isEmpty with
      | false => rfl
      | true => exact absurd ((isEmpty_iff d).1 hx) z
    have j0 : (0 : Int) < (d.size : Int) := by omega
    have hdc := cons_of d l0
    clear z
    have FORK : Hid ((((d[0].toNat : Int) == 48) = true ∧ (s.toList == [48]) = false ∧ readI s.data.toList = (0, 0, [], 2)) ∨
        (((((d[0].toNat : Int) == 48) = false ∨ (((d[0].toNat : Int) == 48) = true ∧ (s.toList == [48]) = true))) ∧ (d.data.toList.length ≤ 1 ∨ d.data.toList.head? ≠ some 48) ∧ ¬ (isNeg s.data.toList = true ∧ stripNeg s.data.toList = [48]))) := by
      show _ ∨ _
      by_cases c48 : d[0] = 48
      · have e48 : ((d[0].toNat : Int) == 48) = true := by rw [c48]; rfl
        by_cases s48 : s.data.toList = [48]
        · right
          refine ⟨Or.inr ⟨e48, ?_⟩, ?_, ?_⟩
          · rw [ByteArray.toList_eq, s48]
            rfl
          · left
            rw [s48] at hsh
            exact absurd hsh (by decide)
          · rintro ⟨h, _⟩
            rw [s48] at h
            exact absurd h (by decide)
        · left
          refine ⟨e48, toList_ne s48, readI_form ?_⟩
          rw [HS.out]
          by_cases l1 : d.data.toList.length ≤ 1
          · have hone : d.data.toList = [48] := by
              rw [hdc, c48] at l1 ⊢
              simp only [List.length_cons] at l1
              rw [List.length_eq_zero_iff.1 (by omega : (d.data.toList.drop 1).length = 0)]
            exact Or.inr ⟨HN.out, hone⟩
          · left
            refine num_zero _ (by omega) ?_
            rw [hdc, c48]
            rfl
      · right
        have e48 : ((d[0].toNat : Int) == 48) = false := by
          have : d[0].toNat ≠ 48 := fun e => c48 (UInt8.toNat_inj.1 e)
          simp
          omega
        have hh : d.data.toList.head? ≠ some 48 := by
          rw [hdc]
          simpa using c48
        refine ⟨Or.inl e48, Or.inr hh, ?_⟩
        rintro ⟨_, h⟩
        rw [HS.out] at h
        rw [h] at hh
        exact hh rfl
    clear hdc
    rcases FORK.out with ⟨e48, n48, R⟩ | ⟨hgo, hlen, hnz⟩
    · have R2 := Lib.hid R
      clear R FORK
      go_wp2_with fail
      rw [R2.out]
      exact bodyPost_ret (v := rvOf (0, 0, [], 2)) (by simp [results, Tryd.results35, go_sem, rvOf]) rfl ⟨rfl, b0 _ _⟩
    · have HG := Lib.hid hlen
      have HZ := Lib.hid hnz
      clear FORK hlen hnz
      have HA0 : Hid ((d.data.toList.take 0).all isDig = true) := rfl
      rcases hgo with e48 | ⟨e48, n48⟩
      all_goals
        go_wp2_with fail
        go_loop [5] (fun i => ∃ k : Nat, k ≤ d.size ∧ i = .int .i64 k ∧ Hid ((d.data.toList.take k).all isDig = true)) (fun i => d.size - (intOf i).toNat)
        case atStart => exact ⟨0, Nat.zero_le _, rfl, HA0⟩
        case round =>
          obtain ⟨k, hk, rfl, hA⟩ := hrel
          by_cases hlt : k < d.size
          · have i1 : (k : Int) < (d.size : Int) := by omega
            by_cases hd : isDig d[k] = true
            · have hd' : 48 ≤ d[k].toNat ∧ d[k].toNat ≤ 57 := by simpa [isDig] using hd
              have j1 : ¬ (d[k].toNat : Int) < 48 := by omega
              have j2 : ¬ (57 : Int) < (d[k].toNat : Int) := by omega
              have hA2 : Hid ((d.data.toList.take (k + 1)).all isDig = true) := by
                show _ = _
                rw [take_snoc d k hlt, List.all_append, hA.out]
                simp [hd]
              clear hd hd'
              go_wp2_with fail
              go_round
              case rel => exact ⟨k + 1, by omega, by go_num, hA2⟩
              case measure => simp [intOf]; omega
            · have hd' : ¬ (48 ≤ d[k].toNat ∧ d[k].toNat ≤ 57) := by simpa [isDig] using hd
              have R : Hid (readI s.data.toList = (0, 0, [], 2)) := by
                refine readI_form (Or.inl ?_)
                rw [HS.out]
                exact all_take_dig _ k _ (get_some d k hlt) (by simpa using hd)
              clear hd
              by_cases j1 : (d[k].toNat : Int) < 48
              · clear hd'
                go_wp2_with fail
                rw [R.out]
                exact bodyPost_ret (v := rvOf (0, 0, [], 2)) (by simp [results, Tryd.results35, go_sem, rvOf]) rfl ⟨rfl, b0 _ _⟩
              · have j2 : (57 : Int) < (d[k].toNat : Int) := by omega
                clear hd'
                go_wp2_with fail
                rw [R.out]
                exact bodyPost_ret (v := rvOf (0, 0, [], 2)) (by simp [results, Tryd.results35, go_sem, rvOf]) rfl ⟨rfl, b0 _ _⟩
          · have hge : ¬ (k : Int) < (d.size : Int) := by omega
            have hall : Hid (d.data.toList.all isDig = true) := by
              have := hA.out
              rw [List.take_of_length_le (by have := HL.out; omega)] at this
              exact this
            have hnum : Hid (isNum (stripNeg s.data.toList) = true) := by
              show _ = _
              rw [HS.out]
              refine num_of ?_ hall.out HG.out
              intro e
              have := HL.out
              rw [e] at this
              simp at this
              omega
            clear hA
            go_wp2_with fail
            go_loop [7, 8] (fun n i => ∃ (k : Nat) (a : Int), k ≤ d.size ∧ i = .int .i64 k ∧ n = .int .u64 a ∧ 0 ≤ a ∧ a ≤ 9223372036854775808 ∧ Hid (a = (natFrom 0 (d.data.toList.take k) : Int))) (fun _ i => d.size - (intOf i).toNat)
            case atStart => exact ⟨0, 0, Nat.zero_le _, rfl, rfl, by omega, by omega, rfl⟩
            case round =>
              obtain ⟨m, a, hm, rfl, rfl, a0, a1, hv⟩ := hrel
              by_cases hlt2 : m < d.size
              · have i1 : (m : Int) < (d.size : Int) := by omega
                have hd' : 48 ≤ d[m].toNat ∧ d[m].toNat ≤ 57 := by
                  have h1 := hall.out
                  rw [List.all_eq_true] at h1
                  have h2 := h1 _ (List.mem_of_getElem? (get_some d m hlt2))
                  simpa [isDig] using h2
                have k1 : (48 : Int) ≤ (d[m].toNat : Int) := by omega
                have k2 : (d[m].toNat : Int) ≤ 57 := by omega
                have hst : Hid (natFrom 0 (d.data.toList.take (m + 1)) = natFrom 0 (d.data.toList.take m) * 10 + (d[m].toNat - 48)) := natFrom_take _ _ _ (get_some d m hlt2)
                clear hd'
                by_cases ov : (9223372036854775808 - ((d[m].toNat : Int) - 48)) / 10 < a
                · have R : Hid (readI s.data.toList = (0, 0, [], 1)) := by
                    have h1 := natFrom_mono d.data.toList (m + 1)
                    rw [hst.out] at h1
                    have h2 := hv.out
                    have h3 : ¬ natFrom 0 (stripNeg s.data.toList) ≤ 9223372036854775808 := by
                      rw [HS.out]
                      omega
                    show _ = _
                    rw [readI_num hnum.out HZ.out, if_pos HN.out, if_neg h3]
                  go_wp2_with fail
                  rw [R.out]
                  exact bodyPost_ret (v := rvOf (0, 0, [], 1)) (by simp [results, Tryd.results35, go_sem, rvOf]) rfl ⟨rfl, b0 _ _⟩
                · have ov2 : a ≤ (9223372036854775808 - ((d[m].toNat : Int) - 48)) / 10 := by omega
                  have b1 : 10 * a + ((d[m].toNat : Int) - 48) ≤ 9223372036854775808 := by omega
                  have b0' : 0 ≤ 10 * a + ((d[m].toNat : Int) - 48) := by omega
                  have b2 : 10 * a ≤ 9223372036854775808 := by omega
                  have hv2 : Hid (10 * a + ((d[m].toNat : Int) - 48) = (natFrom 0 (d.data.toList.take (m + 1)) : Int)) := by
                    have h1 := hst.out
                    have h2 := hv.out
                    show _ = _
                    rw [h1]
                    omega
                  clear ov
                  go_wp2_with fail
                  go_round
                  case rel => exact ⟨m + 1, _, by omega, by go_num, rfl, b0', b1, hv2⟩
                  case measure => simp [intOf]; omega
              · have hge2 : ¬ (m : Int) < (d.size : Int) := by omega
                have hv3 : Hid (a = (natFrom 0 d.data.toList : Int)) := by
                  have := hv.out
                  rw [List.take_of_length_le (by have := HL.out; omega)] at this
                  exact this
                have R : Hid (readI s.data.toList = (1, -a, [], 0)) := by
                  have h2 := hv3.out
                  show _ = _
                  rw [readI_num hnum.out HZ.out, if_pos HN.out, HS.out, if_pos (by omega), ← h2]
                have u1 := u64_neg a a0 a1
                go_wp2_with (go_at_call 21; refine (refInt_any _ _).mono ?_; rintro e w2 ⟨rfl, hb2⟩; have hB2 := up_of hb2; obtain ⟨q0, q1, q2, f0, f1, f2⟩ := res_cells hB2)
                rw [R.out]
                exact bodyPost_ret (v := rvOf (1, -a, [], 0)) (by simp [results, Tryd.results35, go_sem, rvOf, q0, q1, q2]) rfl ⟨rfl, below3 (below_up hB2) _ _ _⟩
end Go.Proofs.YtmilcgikncecnaaDoor
