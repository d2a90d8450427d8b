/-
  WHAT IS PROVED: deed.begun tells the kind whose line a word begins, as the plain function begunK does.
-/
import Derived.Test.YtmilcgikncecnaaDoorLine
namespace Go.Proofs.YtmilcgikncecnaaDoor
open Go.RowKit

/-- The kind whose line a word begins; 0: none. -/
def begunK (l : List UInt8) : Int := if l = wordL 1 then 1 else if l = wordL 2 then 2 else if l = wordL 3 then 3 else if l = wordL 4 then 4 else 0
theorem begunK_none {l : List UInt8} (h1 : l ≠ wordL 1) (h2 : l ≠ wordL 2) (h3 : l ≠ wordL 3) (h4 : l ≠ wordL 4) : begunK l = 0 := by
  unfold begunK
  rw [if_neg h1, if_neg h2, if_neg h3, if_neg h4]
theorem begunK_cases (l : List UInt8) : (begunK l = 1 ∧ l = wordL 1) ∨ (begunK l = 2 ∧ l = wordL 2) ∨ (begunK l = 3 ∧ l = wordL 3) ∨ (begunK l = 4 ∧ l = wordL 4) ∨ begunK l = 0 := by
  unfold begunK
  by_cases h1 : l = wordL 1
  · exact Or.inl ⟨by rw [if_pos h1], h1⟩
  · by_cases h2 : l = wordL 2
    · exact Or.inr (Or.inl ⟨by rw [if_neg h1, if_pos h2], h2⟩)
    · by_cases h3 : l = wordL 3
      · exact Or.inr (Or.inr (Or.inl ⟨by rw [if_neg h1, if_neg h2, if_pos h3], h3⟩))
      · by_cases h4 : l = wordL 4
        · exact Or.inr (Or.inr (Or.inr (Or.inl ⟨by rw [if_neg h1, if_neg h2, if_neg h3, if_pos h4], h4⟩)))
        · exact Or.inr (Or.inr (Or.inr (Or.inr (by rw [if_neg h1, if_neg h2, if_neg h3, if_neg h4]))))
theorem begunK_word (K : Int) (h : K = 1 ∨ K = 2 ∨ K = 3 ∨ K = 4) : begunK (wordL K) = K := by
  rcases h with rfl | rfl | rfl | rfl <;> decide
theorem word_1 (w : World) : Calls Tryd.prog 28 #[.int .i64 1] w fun e w' => e = .returned (.string ⟨#[112, 117, 116]⟩) ∧ w = w' := word_any 1 w
theorem word_2 (w : World) : Calls Tryd.prog 28 #[.int .i64 2] w fun e w' => e = .returned (.string ⟨#[100, 101, 108]⟩) ∧ w = w' := word_any 2 w
theorem word_3 (w : World) : Calls Tryd.prog 28 #[.int .i64 3] w fun e w' => e = .returned (.string ⟨#[97, 100, 100]⟩) ∧ w = w' := word_any 3 w
theorem word_4 (w : World) : Calls Tryd.prog 28 #[.int .i64 4] w fun e w' => e = .returned (.string ⟨#[99, 97, 115]⟩) ∧ w = w' := word_any 4 w

set_option maxHeartbeats 2000000 in
theorem begun_any (s : ByteArray) (w : World) :
    Calls Tryd.prog 44 #[.string s] w fun e w' => e = .returned (.int .i64 (begunK s.data.toList)) ∧ w = w' := by
  go_enter Tryd.func44, Tryd.ntmps44
  go_wp2_with fail
  go_loop [3] (fun i => ∃ k : Nat, 1 ≤ k ∧ k ≤ 5 ∧ i = .int .i64 k ∧ Hid (∀ j : Int, 1 ≤ j → j < k → s.data.toList ≠ wordL j)) (fun i => 5 - (intOf i).toNat)
  case atStart => exact ⟨1, by omega, by omega, rfl, fun j h1 h2 => by omega⟩
  case round =>
    obtain ⟨k, hk1, hk5, rfl, hN⟩ := hrel
    by_cases e5 : k = 5
    · subst e5
      have R : Hid (begunK s.data.toList = 0) := begunK_none (hN.out 1 (by omega) (by omega)) (hN.out 2 (by omega) (by omega)) (hN.out 3 (by omega) (by omega)) (hN.out 4 (by omega) (by omega))
      go_wp2_with fail
      go_ret
      exact ⟨ret_i64 R.out.symm, rfl⟩
    · have hc : k = 1 ∨ k = 2 ∨ k = 3 ∨ k = 4 := by omega
      clear e5
      rcases hc with rfl | rfl | rfl | rfl
      · by_cases h : s.data.toList = [112, 117, 116]
        · obtain rfl : s = ⟨#[112, 117, 116]⟩ := data_eq' h
          clear h hN
          go_wp2_with (go_at_call 28; refine (word_1 _).mono ?_; rintro e w2 ⟨rfl, rfl⟩)
          go_ret
          exact ⟨rfl, rfl⟩
        · have n1 : (s.toList == [112, 117, 116]) = false := toList_ne h
          have hN2 : Hid (∀ j : Int, 1 ≤ j → j < ((1 + 1 : Nat) : Int) → s.data.toList ≠ wordL j) := by
            intro j h1 h2
            by_cases hj : j = 1
            · subst hj
              exact h
            · exact hN.out j h1 (by omega)
          clear h hN
          go_wp2_with (go_at_call 28; refine (word_1 _).mono ?_; rintro e w2 ⟨rfl, rfl⟩)
          go_round
          case rel => exact ⟨1 + 1, by omega, by omega, by go_num, hN2⟩
          case measure => simp [intOf] <;> omega
      · by_cases h : s.data.toList = [100, 101, 108]
        · obtain rfl : s = ⟨#[100, 101, 108]⟩ := data_eq' h
          clear h hN
          go_wp2_with (go_at_call 28; refine (word_2 _).mono ?_; rintro e w2 ⟨rfl, rfl⟩)
          go_ret
          exact ⟨rfl, rfl⟩
        · have n1 : (s.toList == [100, 101, 108]) = false := toList_ne h
          have hN2 : Hid (∀ j : Int, 1 ≤ j → j < ((2 + 1 : Nat) : Int) → s.data.toList ≠ wordL j) := by
            intro j h1 h2
            by_cases hj : j = 2
            · subst hj
              exact h
            · exact hN.out j h1 (by omega)
          clear h hN
          go_wp2_with (go_at_call 28; refine (word_2 _).mono ?_; rintro e w2 ⟨rfl, rfl⟩)
          go_round
          case rel => exact ⟨2 + 1, by omega, by omega, by go_num, hN2⟩
          case measure => simp [intOf] <;> omega
      · by_cases h : s.data.toList = [97, 100, 100]
        · obtain rfl : s = ⟨#[97, 100, 100]⟩ := data_eq' h
          clear h hN
          go_wp2_with (go_at_call 28; refine (word_3 _).mono ?_; rintro e w2 ⟨rfl, rfl⟩)
          go_ret
          exact ⟨rfl, rfl⟩
        · have n1 : (s.toList == [97, 100, 100]) = false := toList_ne h
          have hN2 : Hid (∀ j : Int, 1 ≤ j → j < ((3 + 1 : Nat) : Int) → s.data.toList ≠ wordL j) := by
            intro j h1 h2
            by_cases hj : j = 3
            · subst hj
              exact h
            · exact hN.out j h1 (by omega)
          clear h hN
          go_wp2_with (go_at_call 28; refine (word_3 _).mono ?_; rintro e w2 ⟨rfl, rfl⟩)
          go_round
          case rel => exact ⟨3 + 1, by omega, by omega, by go_num, hN2⟩
          case measure => simp [intOf] <;> omega
      · by_cases h : s.data.toList = [99, 97, 115]
        · obtain rfl : s = ⟨#[99, 97, 115]⟩ := data_eq' h
          clear h hN
          go_wp2_with (go_at_call 28; refine (word_4 _).mono ?_; rintro e w2 ⟨rfl, rfl⟩)
          go_ret
          exact ⟨rfl, rfl⟩
        · have n1 : (s.toList == [99, 97, 115]) = false := toList_ne h
          have hN2 : Hid (∀ j : Int, 1 ≤ j → j < ((4 + 1 : Nat) : Int) → s.data.toList ≠ wordL j) := by
            intro j h1 h2
            by_cases hj : j = 4
            · subst hj
              exact h
            · exact hN.out j h1 (by omega)
          clear h hN
          go_wp2_with (go_at_call 28; refine (word_4 _).mono ?_; rintro e w2 ⟨rfl, rfl⟩)
          go_round
          case rel => exact ⟨4 + 1, by omega, by omega, by go_num, hN2⟩
          case measure => simp [intOf] <;> omega
end Go.Proofs.YtmilcgikncecnaaDoor
