/-
  WHAT IS PROVED: the fixed fact of the statements of layer 1 holds, in every world; cell.Text of a text of at most 2^40 bytes.
-/
import Derived.Test.YtjamocfpfibhfaaDoorQuote
namespace Go.Proofs.YtjamocfpfibhfaaDoor
open Go.RowKit

theorem ret_str {a b : ByteArray} (h : a = b) : Ending.returned (.string a) = .returned (.string b) := by rw [h]

set_option maxHeartbeats 1000000 in
theorem text_text (n : Int) (s : ByteArray) (w : World) (hs : s.size ≤ 1099511627776) :
    Calls Tryd.prog 15 #[.agg #[.int .i64 2, .int .i64 n, .string s]] w fun e w' => e = .returned (.string ⟨(34 :: quoL s.data.toList ++ [34]).toArray⟩) ∧ Below w.heap.size w w' := by
  go_enter Tryd.func15, Tryd.ntmps15
  go_wp2_with (go_at_call 25; refine (quoted_any _ _ hs).mono ?_; rintro e w2 ⟨rfl, hb2⟩)
  go_ret
  exact ⟨rfl, ((Below.refl _ _).alloc (Nat.le_refl _) _).trans (hb2.mono (by simp))⟩

theorem quoEx : (34 :: quoL [97, 32, 34] ++ [34]).toArray = #[34, 97, 37, 50, 48, 37, 50, 50, 34] := by decide

theorem text_ex (w : World) :
    Calls Tryd.prog 15 #[.agg #[.int .i64 2, .int .i64 0, .string ⟨#[97, 32, 34]⟩]] w fun e w' => e = .returned (.string ⟨#[34, 97, 37, 50, 48, 37, 50, 50, 34]⟩) ∧ Below w.heap.size w w' := by
  refine (text_text 0 ⟨#[97, 32, 34]⟩ w (by decide)).mono ?_
  rintro e w' ⟨rfl, hb⟩
  exact ⟨by rw [quoEx], hb⟩

set_option maxHeartbeats 1000000 in
theorem awake_any (w : World) :
    Calls Tryd.prog 8 #[] w fun e w' => e = .returned (.bool true) ∧ Below w.heap.size w w' := by
  go_enter Tryd.func8, Tryd.ntmps8
  go_wp2_with fail
  refine (refInt_any _ _).mono ?_
  rintro e w1 ⟨rfl, hb1⟩
  have hs1 := hb1.size
  go_wp2_with fail
  refine (refInt_any _ _).mono ?_
  rintro e w2 ⟨rfl, hb2⟩
  have hs2 := hb2.size
  go_wp2_with fail
  refine (sum_over _ _ _ _ _ (by decide) (by decide) (by decide) (by decide) (by decide)).mono ?_
  rintro e w3 ⟨rfl, hb3⟩
  have hs3 := hb3.size
  unfold sumV
  go_wp2_with fail
  refine (refInt_any _ _).mono ?_
  rintro e w4 ⟨rfl, hb4⟩
  go_wp2_with fail
  refine (sum_kind _ _ _ _ _ _ _ (by decide)).mono ?_
  rintro e w5 ⟨rfl, hb5⟩
  unfold sumV
  go_wp2_with fail
  refine (text_ex _).mono ?_
  rintro e w6 ⟨rfl, hb6⟩
  go_wp2_with fail
  go_ret
  exact ⟨rfl, bt (ba (bt (bt (ba (bt (bt hb1 hb2) hb3) _) hb4) hb5) _) hb6⟩
end Go.Proofs.YtjamocfpfibhfaaDoor
