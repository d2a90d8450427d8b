/-
  WHAT IS PROVED: the document's cut of a text at its first blank is the plain function cutL. Condition: the text is no longer than the form's reach.
-/
import Derived.Test.YtmilcgikncecnaaDoorSplitMath
import Derived.Test.YtmilcgikncecnaaDoorKey
import Derived.Test.YtmilcgikncecnaaDoorReads
namespace Go.Proofs.YtmilcgikncecnaaDoor
open Go.RowKit

def cT (s : ByteArray) : Option (List UInt8 × List UInt8) → Value
  | none => .tuple #[.string s, .string ⟨#[]⟩, .bool false]
  | some p => .tuple #[.string ⟨p.1.toArray⟩, .string ⟨p.2.toArray⟩, .bool true]
theorem cut_at (s : ByteArray) (k : Nat) (h : k < s.size) (hc : s[k] = 32) (hn : (32 : UInt8) ∉ s.data.toList.take k) : cutL s.data.toList = some ((s.extract 0 k).data.toList, (s.extract (k + 1) s.size).data.toList) := by
  have h1 : s.data.toList = s.data.toList.take k ++ 32 :: s.data.toList.drop (k + 1) := by
    have h2 := drop_cons s k h
    rw [hc] at h2
    rw [← h2, List.take_append_drop]
  rw [Lib.extract_to_end, Lib.extract_from_zero]
  have h3 := cutL_app (s.data.toList.take k) (s.data.toList.drop (k + 1)) hn
  rw [← h1] at h3
  exact h3

set_option maxHeartbeats 2000000 in
theorem refCut_any (s : ByteArray) (w : World) (hs : s.size ≤ maxLen) :
    Calls Tryd.prog 34 #[.string s] w fun e w' => e = .returned (cT s (cutL s.data.toList)) ∧ Below w.heap.size w w' := by
  unfold maxLen at hs
  have hl : s.data.toList.length = s.size := Array.length_toList
  have HLn := Lib.hid hl
  clear hl
  go_enter Tryd.func34, Tryd.ntmps34
  go_wp2_with fail
  go_loop [5] (fun i => ∃ k : Nat, k ≤ s.size ∧ i = .int .i64 k ∧ Hid ((32 : UInt8) ∉ s.data.toList.take k)) (fun i => s.size - (intOf i).toNat)
  case atStart => exact ⟨0, Nat.zero_le _, rfl, by show _ ∉ _; simp⟩
  case round =>
    obtain ⟨k, hk, rfl, hN⟩ := hrel
    by_cases hp : k < s.size
    · by_cases hc : s[k] = 32
      · have R : Hid (cT s (cutL s.data.toList) = .tuple #[.string (s.extract 0 k), .string (s.extract (k + 1) s.size), .bool true]) := by
          show _ = _
          rw [cut_at s k hp hc hN.out]
          simp only [cT]
        have e1 : ((s[k].toNat : Int) == 32) = true := by rw [hc]; rfl
        have i1 : (k : Int) < (s.size : Int) := by omega
        have i2 : IntKind.i64.wrap ((k : Int) + 1) = (k : Int) + 1 := IntWalk.i64_in _ (by omega)
        have i3 : (0 : Int) ≤ (k : Int) + 1 := by omega
        have i4 : ((k : Int) + 1).toNat = k + 1 := by omega
        clear hc hN
        go_wp2_with fail
        go_quiet (fail)
        go_wp2_with fail
        go_ret3
        exact ⟨by rw [R.out]; rfl, ⟨rfl, rfl, rfl, Nat.le_refl _, fun _ _ => rfl⟩⟩
      · have e1 : ((s[k].toNat : Int) == 32) = false := by
          have : s[k].toNat ≠ 32 := fun e => hc (UInt8.toNat_inj.1 e)
          simp
          omega
        have hN2 : Hid ((32 : UInt8) ∉ s.data.toList.take (k + 1)) := by
          show _ ∉ _
          rw [key_snoc s k hp, List.mem_append, List.mem_singleton, not_or]
          exact ⟨hN.out, fun e => hc e.symm⟩
        clear hc hN
        go_wp2_with fail
        go_round
        case rel => exact ⟨k + 1, by omega, by go_num, hN2⟩
        case measure => simp [intOf]; omega
    · have ht : s.data.toList.take k = s.data.toList := List.take_of_length_le (by have := HLn.out; omega)
      have R : Hid (cT s (cutL s.data.toList) = .tuple #[.string s, .string ⟨#[]⟩, .bool false]) := by
        show _ = _
        have := hN.out
        rw [ht] at this
        rw [cutL_of_none _ this]
        rfl
      clear ht hN
      go_wp2_with fail
      go_ret3
      exact ⟨by rw [R.out]; rfl, Below.refl _ _⟩
end Go.Proofs.YtmilcgikncecnaaDoor
