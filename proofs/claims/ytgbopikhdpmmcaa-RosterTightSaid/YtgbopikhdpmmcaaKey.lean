/-
  WHAT IS PROVED: deed.Key and the document's Key answer the same bool, named keyB, for every text. Condition: the text is no longer than the form's reach.
-/
import Derived.Test.YtgbopikhdpmmcaaBase
import Derived.Test.YtgbopikhdpmmcaaKeyMath
import Derived.Lib.OthersKept
import Derived.Laws.RangeAny
namespace Go.Proofs.Ytgbopikhdpmmcaa
open Go.RowKit

theorem key_snoc (s : ByteArray) (k : Nat) (h : k < s.size) : s.data.toList.take (k + 1) = s.data.toList.take k ++ [s[k]] := by
  rw [List.take_succ_eq_append_getElem (by simpa using h)]; rfl
theorem key_get (s : ByteArray) (k : Nat) (h : k < s.size) : s.data.toList[k]? = some s[k] := by
  rw [List.getElem?_eq_getElem (by simpa using h)]; rfl

set_option maxHeartbeats 1000000 in
theorem refKey_any (s : ByteArray) (w : World) (hs : s.size ≤ maxLen) :
    Calls Try.prog 36 #[.string s] w fun e w' => e = .returned (.bool (keyB s.data.toList)) ∧ w = w' := by
  unfold maxLen at hs
  have hl : s.data.toList.length = s.size := Array.length_toList
  go_enter Try.func36, Try.ntmps36
  go_wp2_with fail
  go_loop [3] (fun i => ∃ k : Nat, k ≤ s.size ∧ i = .int .i64 k ∧ Hid ((s.data.toList.take k).all keyC = true)) (fun i => s.size - (intOf i).toNat)
  case atStart => exact ⟨0, Nat.zero_le _, rfl, rfl⟩
  case round =>
    obtain ⟨k, hk, rfl, hA⟩ := hrel
    by_cases hp : k < s.size
    · have hg := key_get s k hp
      have hc := s[k].toNat_lt
      by_cases hd : keyC s[k] = true
      · have hA2 : Hid ((s.data.toList.take (k + 1)).all keyC = true) := by
          show _ = _
          rw [key_snoc s k hp, List.all_append, hA.out]
          simp [hd]
        simp only [keyC, decide_eq_true_eq] at hd
        clear hg hA
        have j : (97 ≤ (s[k].toNat : Int) ∧ (s[k].toNat : Int) ≤ 122) ∨ ((s[k].toNat : Int) < 97 ∧ 48 ≤ (s[k].toNat : Int) ∧ (s[k].toNat : Int) ≤ 57) ∨ ((s[k].toNat : Int) < 48 ∧ ((s[k].toNat : Int) != 46) = false) ∨ ((s[k].toNat : Int) < 48 ∧ ((s[k].toNat : Int) != 46) = true ∧ ((s[k].toNat : Int) != 45) = false) := by
          rcases hd with h | h | h | h
          · exact Or.inl (by omega)
          · exact Or.inr (Or.inl (by omega))
          · exact Or.inr (Or.inr (Or.inl ⟨by omega, by rw [h]; rfl⟩))
          · exact Or.inr (Or.inr (Or.inr ⟨by omega, by rw [h]; rfl, by rw [h]; rfl⟩))
        clear hd
        rcases j with ⟨j1, j2⟩ | ⟨j1, j2, j3⟩ | ⟨j1, j2⟩ | ⟨j1, j2, j3⟩
        all_goals
          go_wp2_with fail
          go_round
          case rel => exact ⟨k + 1, by omega, by go_num, hA2⟩
          case measure => simp [intOf]; omega
      · have R : Hid (keyB s.data.toList = false) := keyB_bad hg (by simpa using hd)
        simp only [keyC, decide_eq_true_eq] at hd
        have n46 : ((s[k].toNat : Int) != 46) = true := by rw [bne_iff_ne]; omega
        have n45 : ((s[k].toNat : Int) != 45) = true := by rw [bne_iff_ne]; omega
        have j : ((s[k].toNat : Int) < 97 ∧ (s[k].toNat : Int) < 48) ∨ ((s[k].toNat : Int) < 97 ∧ 48 ≤ (s[k].toNat : Int) ∧ 57 < (s[k].toNat : Int)) ∨ (97 ≤ (s[k].toNat : Int) ∧ 122 < (s[k].toNat : Int)) := by omega
        clear hg hA hd
        rcases j with ⟨j1, j2⟩ | ⟨j1, j2, j3⟩ | ⟨j1, j2⟩
        all_goals
          go_wp2_with fail
          go_ret
          exact ⟨ret_bool R.out.symm, rfl⟩
    · have ht : s.data.toList.take k = s.data.toList := List.take_of_length_le (by omega)
      have R : Hid (keyB s.data.toList = decide (1 ≤ s.size ∧ s.size ≤ 20)) := by
        have hA3 := hA.out
        rw [ht] at hA3
        show _ = _
        rw [keyB_is hA3, hl]
      clear ht hA
      by_cases q : 1 ≤ s.size
      · have q1 : (1 : Int) ≤ (s.size : Int) := by omega
        have hq : ¬ (k : Int) < (s.size : Int) := by omega
        go_wp2_with fail
        go_ret
        refine ⟨ret_bool ?_, rfl⟩
        rw [R.out, Bool.eq_iff_iff]
        simp
        omega
      · have q1 : ¬ (1 : Int) ≤ (s.size : Int) := by omega
        have hq : ¬ (k : Int) < (s.size : Int) := by omega
        go_wp2_with fail
        go_ret
        refine ⟨ret_bool ?_, rfl⟩
        rw [R.out, Bool.eq_iff_iff]
        simp
        omega
end Go.Proofs.Ytgbopikhdpmmcaa
