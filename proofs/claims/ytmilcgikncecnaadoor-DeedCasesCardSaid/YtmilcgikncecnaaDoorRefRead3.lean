/-
  WHAT IS PROVED: the document's reading of any text that begins with no '-' and isn't quoted (of at most 1000 bytes) is the plain function readI.
-/
import Derived.Test.YtmilcgikncecnaaDoorRefRead2
namespace Go.Proofs.YtmilcgikncecnaaDoor
open Go.RowKit

set_option maxRecDepth 100000 in
set_option maxHeartbeats 16000000 in
theorem refInt_pos1 (s : ByteArray) (w : World) (hs : s.size ≤ 1000) (n1 : (s.toList == [110, 105, 108]) = false) (h0 : 0 < s.size) (h45 : s[0] ≠ 45) (hq : s.size < 2) :
    Calls Tryd.prog 35 #[.string s] w fun e w' => e = .returned (rvOf (readI s.data.toList)) ∧ Below w.heap.size w w' := by
  have e45 : ((s[0].toNat : Int) == 45) = false := by
    have : s[0].toNat ≠ 45 := fun e => h45 (UInt8.toNat_inj.1 e)
    simp
    omega
  have E : s.toList.isEmpty = false := by
    cases hx : s.toList.isEmpty with
    | false => rfl
    | true => exact absurd ((isEmpty_iff s).1 hx) (by omega)
  have i1 : (0 : Int) < (s.size : Int) := by omega
  have hcons := cons_of s h0
  have HS : Hid (stripNeg s.data.toList = s.data.toList) := by
    show _ = _
    rw [hcons]
    exact strip_other _ _ h45
  have HN : Hid (isNeg s.data.toList = false) := by
    show _ = _
    rw [hcons, isNeg_cons]
    simpa using h45
  have g1 : (s.size : Int) < 2 := by omega
  clear hcons h45
  go_enter Tryd.func35, Tryd.ntmps35
  go_upto_region 8 with (fail)
  have HL : Hid (s.data.toList.length = s.size) := Array.length_toList
  by_cases z : s.size = 0
  · exact absurd z (by omega)
  · have l0 : 0 < s.size := by omega
    have E2 : s.toList.isEmpty = false := by
      cases hx : s.toList.isEmpty with
      | false => rfl
      | true => exact absurd ((isEmpty_iff s).1 hx) z
    have j0 : (0 : Int) < (s.size : Int) := by omega
    have hdc := cons_of s l0
    clear z
    have FORK : Hid ((((s[0].toNat : Int) == 48) = true ∧ (s.toList == [48]) = false ∧ readI s.data.toList = (0, 0, [], 2)) ∨
        (((((s[0].toNat : Int) == 48) = false ∨ (((s[0].toNat : Int) == 48) = true ∧ (s.toList == [48]) = true))) ∧ (s.data.toList.length ≤ 1 ∨ s.data.toList.head? ≠ some 48) ∧ ¬ (isNeg s.data.toList = true ∧ stripNeg s.data.toList = [48]))) := by
      show _ ∨ _
      by_cases c48 : s[0] = 48
      · have e48 : ((s[0].toNat : Int) == 48) = true := by rw [c48]; rfl
        by_cases s48 : s.data.toList = [48]
        · right
          refine ⟨Or.inr ⟨e48, ?_⟩, ?_, ?_⟩
          · rw [ByteArray.toList_eq, s48]
            rfl
          · left
            rw [s48]
            decide
          · rintro ⟨h, _⟩
            rw [s48] at h
            exact absurd h (by decide)
        · left
          refine ⟨e48, toList_ne s48, readI_form ?_⟩
          rw [HS.out]
          by_cases l1 : s.data.toList.length ≤ 1
          · have hone : s.data.toList = [48] := by
              rw [hdc, c48] at l1 ⊢
              simp only [List.length_cons] at l1
              rw [List.length_eq_zero_iff.1 (by omega : (s.data.toList.drop 1).length = 0)]
            exact absurd hone s48
          · left
            refine num_zero _ (by omega) ?_
            rw [hdc, c48]
            rfl
      · right
        have e48 : ((s[0].toNat : Int) == 48) = false := by
          have : s[0].toNat ≠ 48 := fun e => c48 (UInt8.toNat_inj.1 e)
          simp
          omega
        have hh : s.data.toList.head? ≠ some 48 := by
          rw [hdc]
          simpa using c48
        refine ⟨Or.inl e48, Or.inr hh, ?_⟩
        rintro ⟨_, h⟩
        rw [HS.out] at h
        rw [h] at hh
        exact hh rfl
    clear hdc
    rcases FORK.out with ⟨e48, n48, R⟩ | ⟨hgo, hlen, hnz⟩
    · have R2 := Lib.hid R
      clear R FORK
      go_wp2_with fail
      rw [R2.out]
      exact bodyPost_ret (v := rvOf (0, 0, [], 2)) (by simp [results, Tryd.results35, go_sem, rvOf]) rfl ⟨rfl, b0 _ _⟩
    · have HG := Lib.hid hlen
      have HZ := Lib.hid hnz
      clear FORK hlen hnz
      have HA0 : Hid ((s.data.toList.take 0).all isDig = true) := rfl
      rcases hgo with e48 | ⟨e48, n48⟩
      all_goals
        go_wp2_with fail
        go_loop [5] (fun i => ∃ k : Nat, k ≤ s.size ∧ i = .int .i64 k ∧ Hid ((s.data.toList.take k).all isDig = true)) (fun i => s.size - (intOf i).toNat)
        case atStart => exact ⟨0, Nat.zero_le _, rfl, HA0⟩
        case round =>
          obtain ⟨k, hk, rfl, hA⟩ := hrel
          by_cases hlt : k < s.size
          · have i1 : (k : Int) < (s.size : Int) := by omega
            by_cases hd : isDig s[k] = true
            · have hd' : 48 ≤ s[k].toNat ∧ s[k].toNat ≤ 57 := by simpa [isDig] using hd
              have j1 : ¬ (s[k].toNat : Int) < 48 := by omega
              have j2 : ¬ (57 : Int) < (s[k].toNat : Int) := by omega
              have hA2 : Hid ((s.data.toList.take (k + 1)).all isDig = true) := by
                show _ = _
                rw [take_snoc s k hlt, List.all_append, hA.out]
                simp [hd]
              clear hd hd'
              go_wp2_with fail
              go_round
              case rel => exact ⟨k + 1, by omega, by go_num, hA2⟩
              case measure => simp [intOf]; omega
            · have hd' : ¬ (48 ≤ s[k].toNat ∧ s[k].toNat ≤ 57) := by simpa [isDig] using hd
              have R : Hid (readI s.data.toList = (0, 0, [], 2)) := by
                refine readI_form (Or.inl ?_)
                rw [HS.out]
                exact all_take_dig _ k _ (get_some s k hlt) (by simpa using hd)
              clear hd
              by_cases j1 : (s[k].toNat : Int) < 48
              · clear hd'
                go_wp2_with fail
                rw [R.out]
                exact bodyPost_ret (v := rvOf (0, 0, [], 2)) (by simp [results, Tryd.results35, go_sem, rvOf]) rfl ⟨rfl, b0 _ _⟩
              · have j2 : (57 : Int) < (s[k].toNat : Int) := by omega
                clear hd'
                go_wp2_with fail
                rw [R.out]
                exact bodyPost_ret (v := rvOf (0, 0, [], 2)) (by simp [results, Tryd.results35, go_sem, rvOf]) rfl ⟨rfl, b0 _ _⟩
          · have hge : ¬ (k : Int) < (s.size : Int) := by omega
            have hall : Hid (s.data.toList.all isDig = true) := by
              have := hA.out
              rw [List.take_of_length_le (by have := HL.out; omega)] at this
              exact this
            have hnum : Hid (isNum (stripNeg s.data.toList) = true) := by
              show _ = _
              rw [HS.out]
              refine num_of ?_ hall.out HG.out
              intro e
              have := HL.out
              rw [e] at this
              simp at this
              omega
            clear hA
            go_wp2_with fail
            go_loop [7, 8] (fun n i => ∃ (k : Nat) (a : Int), k ≤ s.size ∧ i = .int .i64 k ∧ n = .int .u64 a ∧ 0 ≤ a ∧ a ≤ 9223372036854775807 ∧ Hid (a = (natFrom 0 (s.data.toList.take k) : Int))) (fun _ i => s.size - (intOf i).toNat)
            case atStart => exact ⟨0, 0, Nat.zero_le _, rfl, rfl, by omega, by omega, rfl⟩
            case round =>
              obtain ⟨m, a, hm, rfl, rfl, a0, a1, hv⟩ := hrel
              by_cases hlt2 : m < s.size
              · have i1 : (m : Int) < (s.size : Int) := by omega
                have hd' : 48 ≤ s[m].toNat ∧ s[m].toNat ≤ 57 := by
                  have h1 := hall.out
                  rw [List.all_eq_true] at h1
                  have h2 := h1 _ (List.mem_of_getElem? (get_some s m hlt2))
                  simpa [isDig] using h2
                have k1 : (48 : Int) ≤ (s[m].toNat : Int) := by omega
                have k2 : (s[m].toNat : Int) ≤ 57 := by omega
                have hst : Hid (natFrom 0 (s.data.toList.take (m + 1)) = natFrom 0 (s.data.toList.take m) * 10 + (s[m].toNat - 48)) := natFrom_take _ _ _ (get_some s m hlt2)
                clear hd'
                by_cases ov : (9223372036854775807 - ((s[m].toNat : Int) - 48)) / 10 < a
                · have R : Hid (readI s.data.toList = (0, 0, [], 1)) := by
                    have h1 := natFrom_mono s.data.toList (m + 1)
                    rw [hst.out] at h1
                    have h2 := hv.out
                    have h3 : ¬ natFrom 0 (stripNeg s.data.toList) ≤ 9223372036854775807 := by
                      rw [HS.out]
                      omega
                    have HNn : ¬ isNeg s.data.toList = true := by rw [HN.out]; decide
                    show _ = _
                    rw [readI_num hnum.out HZ.out, if_neg HNn, if_neg h3]
                  go_wp2_with fail
                  rw [R.out]
                  exact bodyPost_ret (v := rvOf (0, 0, [], 1)) (by simp [results, Tryd.results35, go_sem, rvOf]) rfl ⟨rfl, b0 _ _⟩
                · have ov2 : a ≤ (9223372036854775807 - ((s[m].toNat : Int) - 48)) / 10 := by omega
                  have b1 : 10 * a + ((s[m].toNat : Int) - 48) ≤ 9223372036854775807 := by omega
                  have b0' : 0 ≤ 10 * a + ((s[m].toNat : Int) - 48) := by omega
                  have b2 : 10 * a ≤ 9223372036854775807 := by omega
                  have hv2 : Hid (10 * a + ((s[m].toNat : Int) - 48) = (natFrom 0 (s.data.toList.take (m + 1)) : Int)) := by
                    have h1 := hst.out
                    have h2 := hv.out
                    show _ = _
                    rw [h1]
                    omega
                  clear ov
                  go_wp2_with fail
                  go_round
                  case rel => exact ⟨m + 1, _, by omega, by go_num, rfl, b0', b1, hv2⟩
                  case measure => simp [intOf]; omega
              · have hge2 : ¬ (m : Int) < (s.size : Int) := by omega
                have hv3 : Hid (a = (natFrom 0 s.data.toList : Int)) := by
                  have := hv.out
                  rw [List.take_of_length_le (by have := HL.out; omega)] at this
                  exact this
                have R : Hid (readI s.data.toList = (1, a, [], 0)) := by
                  have h2 := hv3.out
                  have HNn : ¬ isNeg s.data.toList = true := by rw [HN.out]; decide
                  show _ = _
                  rw [readI_num hnum.out HZ.out, if_neg HNn, HS.out, if_pos (by omega), ← h2]
                go_wp2_with (go_at_call 21; refine (refInt_any _ _).mono ?_; rintro e w2 ⟨rfl, hb2⟩; have hB2 := up_of hb2; obtain ⟨q0, q1, q2, f0, f1, f2⟩ := res_cells hB2)
                rw [R.out]
                exact bodyPost_ret (v := rvOf (1, a, [], 0)) (by simp [results, Tryd.results35, go_sem, rvOf, q0, q1, q2]) rfl ⟨rfl, below3 (below_up hB2) _ _ _⟩

set_option maxRecDepth 100000 in
set_option maxHeartbeats 16000000 in
theorem refInt_pos2 (s : ByteArray) (w : World) (hs : s.size ≤ 1000) (n1 : (s.toList == [110, 105, 108]) = false) (h0 : 0 < s.size) (h45 : s[0] ≠ 45) (hq : 2 ≤ s.size) (h34 : s[0] ≠ 34) :
    Calls Tryd.prog 35 #[.string s] w fun e w' => e = .returned (rvOf (readI s.data.toList)) ∧ Below w.heap.size w w' := by
  have e45 : ((s[0].toNat : Int) == 45) = false := by
    have : s[0].toNat ≠ 45 := fun e => h45 (UInt8.toNat_inj.1 e)
    simp
    omega
  have E : s.toList.isEmpty = false := by
    cases hx : s.toList.isEmpty with
    | false => rfl
    | true => exact absurd ((isEmpty_iff s).1 hx) (by omega)
  have i1 : (0 : Int) < (s.size : Int) := by omega
  have hcons := cons_of s h0
  have HS : Hid (stripNeg s.data.toList = s.data.toList) := by
    show _ = _
    rw [hcons]
    exact strip_other _ _ h45
  have HN : Hid (isNeg s.data.toList = false) := by
    show _ = _
    rw [hcons, isNeg_cons]
    simpa using h45
  have g1 : (2 : Int) ≤ (s.size : Int) := by omega
  have e34 : ((s[0].toNat : Int) == 34) = false := by
    have : s[0].toNat ≠ 34 := fun e => h34 (UInt8.toNat_inj.1 e)
    simp
    omega
  clear h34
  clear hcons h45
  go_enter Tryd.func35, Tryd.ntmps35
  go_upto_region 8 with (fail)
  have HL : Hid (s.data.toList.length = s.size) := Array.length_toList
  by_cases z : s.size = 0
  · exact absurd z (by omega)
  · have l0 : 0 < s.size := by omega
    have E2 : s.toList.isEmpty = false := by
      cases hx : s.toList.isEmpty with
      | false => rfl
      | true => exact absurd ((isEmpty_iff s).1 hx) z
    have j0 : (0 : Int) < (s.size : Int) := by omega
    have hdc := cons_of s l0
    clear z
    have FORK : Hid ((((s[0].toNat : Int) == 48) = true ∧ (s.toList == [48]) = false ∧ readI s.data.toList = (0, 0, [], 2)) ∨
        (((((s[0].toNat : Int) == 48) = false ∨ (((s[0].toNat : Int) == 48) = true ∧ (s.toList == [48]) = true))) ∧ (s.data.toList.length ≤ 1 ∨ s.data.toList.head? ≠ some 48) ∧ ¬ (isNeg s.data.toList = true ∧ stripNeg s.data.toList = [48]))) := by
      show _ ∨ _
      by_cases c48 : s[0] = 48
      · have e48 : ((s[0].toNat : Int) == 48) = true := by rw [c48]; rfl
        by_cases s48 : s.data.toList = [48]
        · right
          refine ⟨Or.inr ⟨e48, ?_⟩, ?_, ?_⟩
          · rw [ByteArray.toList_eq, s48]
            rfl
          · left
            rw [s48]
            decide
          · rintro ⟨h, _⟩
            rw [s48] at h
            exact absurd h (by decide)
        · left
          refine ⟨e48, toList_ne s48, readI_form ?_⟩
          rw [HS.out]
          by_cases l1 : s.data.toList.length ≤ 1
          · have hone : s.data.toList = [48] := by
              rw [hdc, c48] at l1 ⊢
              simp only [List.length_cons] at l1
              rw [List.length_eq_zero_iff.1 (by omega : (s.data.toList.drop 1).length = 0)]
            exact absurd hone s48
          · left
            refine num_zero _ (by omega) ?_
            rw [hdc, c48]
            rfl
      · right
        have e48 : ((s[0].toNat : Int) == 48) = false := by
          have : s[0].toNat ≠ 48 := fun e => c48 (UInt8.toNat_inj.1 e)
          simp
          omega
        have hh : s.data.toList.head? ≠ some 48 := by
          rw [hdc]
          simpa using c48
        refine ⟨Or.inl e48, Or.inr hh, ?_⟩
        rintro ⟨_, h⟩
        rw [HS.out] at h
        rw [h] at hh
        exact hh rfl
    clear hdc
    rcases FORK.out with ⟨e48, n48, R⟩ | ⟨hgo, hlen, hnz⟩
    · have R2 := Lib.hid R
      clear R FORK
      go_wp2_with fail
      rw [R2.out]
      exact bodyPost_ret (v := rvOf (0, 0, [], 2)) (by simp [results, Tryd.results35, go_sem, rvOf]) rfl ⟨rfl, b0 _ _⟩
    · have HG := Lib.hid hlen
      have HZ := Lib.hid hnz
      clear FORK hlen hnz
      have HA0 : Hid ((s.data.toList.take 0).all isDig = true) := rfl
      rcases hgo with e48 | ⟨e48, n48⟩
      all_goals
        go_wp2_with fail
        go_loop [5] (fun i => ∃ k : Nat, k ≤ s.size ∧ i = .int .i64 k ∧ Hid ((s.data.toList.take k).all isDig = true)) (fun i => s.size - (intOf i).toNat)
        case atStart => exact ⟨0, Nat.zero_le _, rfl, HA0⟩
        case round =>
          obtain ⟨k, hk, rfl, hA⟩ := hrel
          by_cases hlt : k < s.size
          · have i1 : (k : Int) < (s.size : Int) := by omega
            by_cases hd : isDig s[k] = true
            · have hd' : 48 ≤ s[k].toNat ∧ s[k].toNat ≤ 57 := by simpa [isDig] using hd
              have j1 : ¬ (s[k].toNat : Int) < 48 := by omega
              have j2 : ¬ (57 : Int) < (s[k].toNat : Int) := by omega
              have hA2 : Hid ((s.data.toList.take (k + 1)).all isDig = true) := by
                show _ = _
                rw [take_snoc s k hlt, List.all_append, hA.out]
                simp [hd]
              clear hd hd'
              go_wp2_with fail
              go_round
              case rel => exact ⟨k + 1, by omega, by go_num, hA2⟩
              case measure => simp [intOf]; omega
            · have hd' : ¬ (48 ≤ s[k].toNat ∧ s[k].toNat ≤ 57) := by simpa [isDig] using hd
              have R : Hid (readI s.data.toList = (0, 0, [], 2)) := by
                refine readI_form (Or.inl ?_)
                rw [HS.out]
                exact all_take_dig _ k _ (get_some s k hlt) (by simpa using hd)
              clear hd
              by_cases j1 : (s[k].toNat : Int) < 48
              · clear hd'
                go_wp2_with fail
                rw [R.out]
                exact bodyPost_ret (v := rvOf (0, 0, [], 2)) (by simp [results, Tryd.results35, go_sem, rvOf]) rfl ⟨rfl, b0 _ _⟩
              · have j2 : (57 : Int) < (s[k].toNat : Int) := by omega
                clear hd'
                go_wp2_with fail
                rw [R.out]
                exact bodyPost_ret (v := rvOf (0, 0, [], 2)) (by simp [results, Tryd.results35, go_sem, rvOf]) rfl ⟨rfl, b0 _ _⟩
          · have hge : ¬ (k : Int) < (s.size : Int) := by omega
            have hall : Hid (s.data.toList.all isDig = true) := by
              have := hA.out
              rw [List.take_of_length_le (by have := HL.out; omega)] at this
              exact this
            have hnum : Hid (isNum (stripNeg s.data.toList) = true) := by
              show _ = _
              rw [HS.out]
              refine num_of ?_ hall.out HG.out
              intro e
              have := HL.out
              rw [e] at this
              simp at this
              omega
            clear hA
            go_wp2_with fail
            go_loop [7, 8] (fun n i => ∃ (k : Nat) (a : Int), k ≤ s.size ∧ i = .int .i64 k ∧ n = .int .u64 a ∧ 0 ≤ a ∧ a ≤ 9223372036854775807 ∧ Hid (a = (natFrom 0 (s.data.toList.take k) : Int))) (fun _ i => s.size - (intOf i).toNat)
            case atStart => exact ⟨0, 0, Nat.zero_le _, rfl, rfl, by omega, by omega, rfl⟩
            case round =>
              obtain ⟨m, a, hm, rfl, rfl, a0, a1, hv⟩ := hrel
              by_cases hlt2 : m < s.size
              · have i1 : (m : Int) < (s.size : Int) := by omega
                have hd' : 48 ≤ s[m].toNat ∧ s[m].toNat ≤ 57 := by
                  have h1 := hall.out
                  rw [List.all_eq_true] at h1
                  have h2 := h1 _ (List.mem_of_getElem? (get_some s m hlt2))
                  simpa [isDig] using h2
                have k1 : (48 : Int) ≤ (s[m].toNat : Int) := by omega
                have k2 : (s[m].toNat : Int) ≤ 57 := by omega
                have hst : Hid (natFrom 0 (s.data.toList.take (m + 1)) = natFrom 0 (s.data.toList.take m) * 10 + (s[m].toNat - 48)) := natFrom_take _ _ _ (get_some s m hlt2)
                clear hd'
                by_cases ov : (9223372036854775807 - ((s[m].toNat : Int) - 48)) / 10 < a
                · have R : Hid (readI s.data.toList = (0, 0, [], 1)) := by
                    have h1 := natFrom_mono s.data.toList (m + 1)
                    rw [hst.out] at h1
                    have h2 := hv.out
                    have h3 : ¬ natFrom 0 (stripNeg s.data.toList) ≤ 9223372036854775807 := by
                      rw [HS.out]
                      omega
                    have HNn : ¬ isNeg s.data.toList = true := by rw [HN.out]; decide
                    show _ = _
                    rw [readI_num hnum.out HZ.out, if_neg HNn, if_neg h3]
                  go_wp2_with fail
                  rw [R.out]
                  exact bodyPost_ret (v := rvOf (0, 0, [], 1)) (by simp [results, Tryd.results35, go_sem, rvOf]) rfl ⟨rfl, b0 _ _⟩
                · have ov2 : a ≤ (9223372036854775807 - ((s[m].toNat : Int) - 48)) / 10 := by omega
                  have b1 : 10 * a + ((s[m].toNat : Int) - 48) ≤ 9223372036854775807 := by omega
                  have b0' : 0 ≤ 10 * a + ((s[m].toNat : Int) - 48) := by omega
                  have b2 : 10 * a ≤ 9223372036854775807 := by omega
                  have hv2 : Hid (10 * a + ((s[m].toNat : Int) - 48) = (natFrom 0 (s.data.toList.take (m + 1)) : Int)) := by
                    have h1 := hst.out
                    have h2 := hv.out
                    show _ = _
                    rw [h1]
                    omega
                  clear ov
                  go_wp2_with fail
                  go_round
                  case rel => exact ⟨m + 1, _, by omega, by go_num, rfl, b0', b1, hv2⟩
                  case measure => simp [intOf]; omega
              · have hge2 : ¬ (m : Int) < (s.size : Int) := by omega
                have hv3 : Hid (a = (natFrom 0 s.data.toList : Int)) := by
                  have := hv.out
                  rw [List.take_of_length_le (by have := HL.out; omega)] at this
                  exact this
                have R : Hid (readI s.data.toList = (1, a, [], 0)) := by
                  have h2 := hv3.out
                  have HNn : ¬ isNeg s.data.toList = true := by rw [HN.out]; decide
                  show _ = _
                  rw [readI_num hnum.out HZ.out, if_neg HNn, HS.out, if_pos (by omega), ← h2]
                go_wp2_with (go_at_call 21; refine (refInt_any _ _).mono ?_; rintro e w2 ⟨rfl, hb2⟩; have hB2 := up_of hb2; obtain ⟨q0, q1, q2, f0, f1, f2⟩ := res_cells hB2)
                rw [R.out]
                exact bodyPost_ret (v := rvOf (1, a, [], 0)) (by simp [results, Tryd.results35, go_sem, rvOf, q0, q1, q2]) rfl ⟨rfl, below3 (below_up hB2) _ _ _⟩

set_option maxRecDepth 100000 in
set_option maxHeartbeats 16000000 in
theorem refInt_pos3 (s : ByteArray) (w : World) (hs : s.size ≤ 1000) (n1 : (s.toList == [110, 105, 108]) = false) (h0 : 0 < s.size) (h45 : s[0] ≠ 45) (hq : 2 ≤ s.size) (h34 : s[0] = 34) (k0 : s.size - 1 < s.size) (h35 : s[s.size - 1] ≠ 34) :
    Calls Tryd.prog 35 #[.string s] w fun e w' => e = .returned (rvOf (readI s.data.toList)) ∧ Below w.heap.size w w' := by
  have e45 : ((s[0].toNat : Int) == 45) = false := by
    have : s[0].toNat ≠ 45 := fun e => h45 (UInt8.toNat_inj.1 e)
    simp
    omega
  have E : s.toList.isEmpty = false := by
    cases hx : s.toList.isEmpty with
    | false => rfl
    | true => exact absurd ((isEmpty_iff s).1 hx) (by omega)
  have i1 : (0 : Int) < (s.size : Int) := by omega
  have hcons := cons_of s h0
  have HS : Hid (stripNeg s.data.toList = s.data.toList) := by
    show _ = _
    rw [hcons]
    exact strip_other _ _ h45
  have HN : Hid (isNeg s.data.toList = false) := by
    show _ = _
    rw [hcons, isNeg_cons]
    simpa using h45
  have g1 : (2 : Int) ≤ (s.size : Int) := by omega
  have g2 : (0 : Int) ≤ (s.size : Int) - 1 := by omega
  have g3 : (s.size : Int) - 1 < (s.size : Int) := by omega
  have e34 : ((s[0].toNat : Int) == 34) = true := by rw [h34]; rfl
  have e35 : ((s[s.size - 1].toNat : Int) == 34) = false := by
    have : s[s.size - 1].toNat ≠ 34 := fun e => h35 (UInt8.toNat_inj.1 e)
    simp
    omega
  clear h34 h35
  clear hcons h45
  go_enter Tryd.func35, Tryd.ntmps35
  go_upto_region 8 with (fail)
  have HL : Hid (s.data.toList.length = s.size) := Array.length_toList
  by_cases z : s.size = 0
  · exact absurd z (by omega)
  · have l0 : 0 < s.size := by omega
    have E2 : s.toList.isEmpty = false := by
      cases hx : s.toList.isEmpty with
      | false => rfl
      | true => exact absurd ((isEmpty_iff s).1 hx) z
    have j0 : (0 : Int) < (s.size : Int) := by omega
    have hdc := cons_of s l0
    clear z
    have FORK : Hid ((((s[0].toNat : Int) == 48) = true ∧ (s.toList == [48]) = false ∧ readI s.data.toList = (0, 0, [], 2)) ∨
        (((((s[0].toNat : Int) == 48) = false ∨ (((s[0].toNat : Int) == 48) = true ∧ (s.toList == [48]) = true))) ∧ (s.data.toList.length ≤ 1 ∨ s.data.toList.head? ≠ some 48) ∧ ¬ (isNeg s.data.toList = true ∧ stripNeg s.data.toList = [48]))) := by
      show _ ∨ _
      by_cases c48 : s[0] = 48
      · have e48 : ((s[0].toNat : Int) == 48) = true := by rw [c48]; rfl
        by_cases s48 : s.data.toList = [48]
        · right
          refine ⟨Or.inr ⟨e48, ?_⟩, ?_, ?_⟩
          · rw [ByteArray.toList_eq, s48]
            rfl
          · left
            rw [s48]
            decide
          · rintro ⟨h, _⟩
            rw [s48] at h
            exact absurd h (by decide)
        · left
          refine ⟨e48, toList_ne s48, readI_form ?_⟩
          rw [HS.out]
          by_cases l1 : s.data.toList.length ≤ 1
          · have hone : s.data.toList = [48] := by
              rw [hdc, c48] at l1 ⊢
              simp only [List.length_cons] at l1
              rw [List.length_eq_zero_iff.1 (by omega : (s.data.toList.drop 1).length = 0)]
            exact absurd hone s48
          · left
            refine num_zero _ (by omega) ?_
            rw [hdc, c48]
            rfl
      · right
        have e48 : ((s[0].toNat : Int) == 48) = false := by
          have : s[0].toNat ≠ 48 := fun e => c48 (UInt8.toNat_inj.1 e)
          simp
          omega
        have hh : s.data.toList.head? ≠ some 48 := by
          rw [hdc]
          simpa using c48
        refine ⟨Or.inl e48, Or.inr hh, ?_⟩
        rintro ⟨_, h⟩
        rw [HS.out] at h
        rw [h] at hh
        exact hh rfl
    clear hdc
    rcases FORK.out with ⟨e48, n48, R⟩ | ⟨hgo, hlen, hnz⟩
    · have R2 := Lib.hid R
      clear R FORK
      go_wp2_with fail
      rw [R2.out]
      exact bodyPost_ret (v := rvOf (0, 0, [], 2)) (by simp [results, Tryd.results35, go_sem, rvOf]) rfl ⟨rfl, b0 _ _⟩
    · have HG := Lib.hid hlen
      have HZ := Lib.hid hnz
      clear FORK hlen hnz
      have HA0 : Hid ((s.data.toList.take 0).all isDig = true) := rfl
      rcases hgo with e48 | ⟨e48, n48⟩
      all_goals
        go_wp2_with fail
        go_loop [5] (fun i => ∃ k : Nat, k ≤ s.size ∧ i = .int .i64 k ∧ Hid ((s.data.toList.take k).all isDig = true)) (fun i => s.size - (intOf i).toNat)
        case atStart => exact ⟨0, Nat.zero_le _, rfl, HA0⟩
        case round =>
          obtain ⟨k, hk, rfl, hA⟩ := hrel
          by_cases hlt : k < s.size
          · have i1 : (k : Int) < (s.size : Int) := by omega
            by_cases hd : isDig s[k] = true
            · have hd' : 48 ≤ s[k].toNat ∧ s[k].toNat ≤ 57 := by simpa [isDig] using hd
              have j1 : ¬ (s[k].toNat : Int) < 48 := by omega
              have j2 : ¬ (57 : Int) < (s[k].toNat : Int) := by omega
              have hA2 : Hid ((s.data.toList.take (k + 1)).all isDig = true) := by
                show _ = _
                rw [take_snoc s k hlt, List.all_append, hA.out]
                simp [hd]
              clear hd hd'
              go_wp2_with fail
              go_round
              case rel => exact ⟨k + 1, by omega, by go_num, hA2⟩
              case measure => simp [intOf]; omega
            · have hd' : ¬ (48 ≤ s[k].toNat ∧ s[k].toNat ≤ 57) := by simpa [isDig] using hd
              have R : Hid (readI s.data.toList = (0, 0, [], 2)) := by
                refine readI_form (Or.inl ?_)
                rw [HS.out]
                exact all_take_dig _ k _ (get_some s k hlt) (by simpa using hd)
              clear hd
              by_cases j1 : (s[k].toNat : Int) < 48
              · clear hd'
                go_wp2_with fail
                rw [R.out]
                exact bodyPost_ret (v := rvOf (0, 0, [], 2)) (by simp [results, Tryd.results35, go_sem, rvOf]) rfl ⟨rfl, b0 _ _⟩
              · have j2 : (57 : Int) < (s[k].toNat : Int) := by omega
                clear hd'
                go_wp2_with fail
                rw [R.out]
                exact bodyPost_ret (v := rvOf (0, 0, [], 2)) (by simp [results, Tryd.results35, go_sem, rvOf]) rfl ⟨rfl, b0 _ _⟩
          · have hge : ¬ (k : Int) < (s.size : Int) := by omega
            have hall : Hid (s.data.toList.all isDig = true) := by
              have := hA.out
              rw [List.take_of_length_le (by have := HL.out; omega)] at this
              exact this
            have hnum : Hid (isNum (stripNeg s.data.toList) = true) := by
              show _ = _
              rw [HS.out]
              refine num_of ?_ hall.out HG.out
              intro e
              have := HL.out
              rw [e] at this
              simp at this
              omega
            clear hA
            go_wp2_with fail
            go_loop [7, 8] (fun n i => ∃ (k : Nat) (a : Int), k ≤ s.size ∧ i = .int .i64 k ∧ n = .int .u64 a ∧ 0 ≤ a ∧ a ≤ 9223372036854775807 ∧ Hid (a = (natFrom 0 (s.data.toList.take k) : Int))) (fun _ i => s.size - (intOf i).toNat)
            case atStart => exact ⟨0, 0, Nat.zero_le _, rfl, rfl, by omega, by omega, rfl⟩
            case round =>
              obtain ⟨m, a, hm, rfl, rfl, a0, a1, hv⟩ := hrel
              by_cases hlt2 : m < s.size
              · have i1 : (m : Int) < (s.size : Int) := by omega
                have hd' : 48 ≤ s[m].toNat ∧ s[m].toNat ≤ 57 := by
                  have h1 := hall.out
                  rw [List.all_eq_true] at h1
                  have h2 := h1 _ (List.mem_of_getElem? (get_some s m hlt2))
                  simpa [isDig] using h2
                have k1 : (48 : Int) ≤ (s[m].toNat : Int) := by omega
                have k2 : (s[m].toNat : Int) ≤ 57 := by omega
                have hst : Hid (natFrom 0 (s.data.toList.take (m + 1)) = natFrom 0 (s.data.toList.take m) * 10 + (s[m].toNat - 48)) := natFrom_take _ _ _ (get_some s m hlt2)
                clear hd'
                by_cases ov : (9223372036854775807 - ((s[m].toNat : Int) - 48)) / 10 < a
                · have R : Hid (readI s.data.toList = (0, 0, [], 1)) := by
                    have h1 := natFrom_mono s.data.toList (m + 1)
                    rw [hst.out] at h1
                    have h2 := hv.out
                    have h3 : ¬ natFrom 0 (stripNeg s.data.toList) ≤ 9223372036854775807 := by
                      rw [HS.out]
                      omega
                    have HNn : ¬ isNeg s.data.toList = true := by rw [HN.out]; decide
                    show _ = _
                    rw [readI_num hnum.out HZ.out, if_neg HNn, if_neg h3]
                  go_wp2_with fail
                  rw [R.out]
                  exact bodyPost_ret (v := rvOf (0, 0, [], 1)) (by simp [results, Tryd.results35, go_sem, rvOf]) rfl ⟨rfl, b0 _ _⟩
                · have ov2 : a ≤ (9223372036854775807 - ((s[m].toNat : Int) - 48)) / 10 := by omega
                  have b1 : 10 * a + ((s[m].toNat : Int) - 48) ≤ 9223372036854775807 := by omega
                  have b0' : 0 ≤ 10 * a + ((s[m].toNat : Int) - 48) := by omega
                  have b2 : 10 * a ≤ 9223372036854775807 := by omega
                  have hv2 : Hid (10 * a + ((s[m].toNat : Int) - 48) = (natFrom 0 (s.data.toList.take (m + 1)) : Int)) := by
                    have h1 := hst.out
                    have h2 := hv.out
                    show _ = _
                    rw [h1]
                    omega
                  clear ov
                  go_wp2_with fail
                  go_round
                  case rel => exact ⟨m + 1, _, by omega, by go_num, rfl, b0', b1, hv2⟩
                  case measure => simp [intOf]; omega
              · have hge2 : ¬ (m : Int) < (s.size : Int) := by omega
                have hv3 : Hid (a = (natFrom 0 s.data.toList : Int)) := by
                  have := hv.out
                  rw [List.take_of_length_le (by have := HL.out; omega)] at this
                  exact this
                have R : Hid (readI s.data.toList = (1, a, [], 0)) := by
                  have h2 := hv3.out
                  have HNn : ¬ isNeg s.data.toList = true := by rw [HN.out]; decide
                  show _ = _
                  rw [readI_num hnum.out HZ.out, if_neg HNn, HS.out, if_pos (by omega), ← h2]
                go_wp2_with (go_at_call 21; refine (refInt_any _ _).mono ?_; rintro e w2 ⟨rfl, hb2⟩; have hB2 := up_of hb2; obtain ⟨q0, q1, q2, f0, f1, f2⟩ := res_cells hB2)
                rw [R.out]
                exact bodyPost_ret (v := rvOf (1, a, [], 0)) (by simp [results, Tryd.results35, go_sem, rvOf, q0, q1, q2]) rfl ⟨rfl, below3 (below_up hB2) _ _ _⟩
end Go.Proofs.YtmilcgikncecnaaDoor
