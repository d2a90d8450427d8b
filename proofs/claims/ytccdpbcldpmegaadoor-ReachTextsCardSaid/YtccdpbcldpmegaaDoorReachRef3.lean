/-
  WHAT IS PROVED: spinneyref04.Text answers a reach's text, as textR does, for slices of at most 6 strings of at most 20 bytes. Conditions: those typed in the theorem.
-/
import Derived.Test.YtccdpbcldpmegaaDoorReachRef2
import Derived.Test.YtccdpbcldpmegaaDoorReachMath2
namespace Go.Proofs.YtccdpbcldpmegaaDoor
open Go.RowKit

set_option maxHeartbeats 2000000 in
theorem refReachText_any {B : Nat} (A : Option Addr) (n c : Nat) (l : List ByteArray) (w : World) (hn : l.length = n) (hr : RdS B w A l) (hm : n ≤ 6) (hs : ∀ x, x ∈ l → x.size ≤ 20) :
    Calls Tryd.prog 10 #[.slice A n c] w fun e w' => (∃ s : ByteArray, e = .returned (.string s) ∧ s.data.toList = textR (dL l)) ∧ w = w' := by
  have HN := Lib.hid hn
  have HS := Lib.hid hs
  clear hn hs
  go_enter Tryd.func10, Tryd.ntmps10
  go_wp2_with fail
  go_loop [3, 7] (fun u i => ∃ (k : Nat) (s : ByteArray), k ≤ n ∧ i = .int .i64 k ∧ u = .string s ∧ s.size ≤ 21 * k ∧ Hid (s.data.toList = joinC ((dL l).take k))) (fun _ i => n - (intOf i).toNat)
  case atStart => exact ⟨0, ⟨#[]⟩, Nat.zero_le _, rfl, rfl, Nat.le_refl _, rfl⟩
  case round =>
    obtain ⟨k, s, hk, rfl, rfl, hsz, hJ⟩ := hrel
    by_cases hlt : k < n
    · obtain ⟨x, hx⟩ := get_ex (show k < l.length by have := HN.out; omega)
      obtain ⟨ad, rfl, _, hc⟩ := hr k x hx
      have i1 : (0 : Int) ≤ (k : Int) := by omega
      have i2 : (k : Int) < (n : Int) := by omega
      have hxs := HS.out x (List.mem_of_getElem? hx)
      have HX := Lib.hid hx
      clear hx
      have ht := take_succ_get HX.out
      by_cases k0 : k = 0
      · have g0 : decide (0 < k) = false := by simp; omega
        have HJ2 : Hid ((s ++ x).data.toList = joinC ((dL l).take (k + 1))) := by
          show _ = _
          rw [ht, joinC_snoc, if_pos (by rw [k0]; rfl), ByteArray.toList_data_append', hJ.out, k0]
          rfl
        clear k0 ht
        go_wp2_with fail
        go_round
        case rel => exact ⟨k + 1, s ++ x, by omega, by go_num, rfl, by rw [ByteArray.size_append]; omega, HJ2⟩
        case measure => simp [intOf]; omega
      · have g0 : (0 : Int) < (k : Int) := by omega
        have HJ2 : Hid ((s ++ ⟨#[44]⟩ ++ x).data.toList = joinC ((dL l).take (k + 1))) := by
          show _ = _
          rw [ht, joinC_snoc, if_neg (by
            intro e
            have := congrArg List.length e
            rw [List.length_take, dL_len, HN.out] at this
            simp at this
            omega), ByteArray.toList_data_append', ByteArray.toList_data_append', hJ.out]
          simp
        clear k0 ht
        go_wp2_with fail
        go_round
        case rel => exact ⟨k + 1, s ++ ⟨#[44]⟩ ++ x, by omega, by go_num, rfl, by rw [ByteArray.size_append, ByteArray.size_append]; show s.size + 1 + x.size ≤ _; omega, HJ2⟩
        case measure => simp [intOf]; omega
    · have hq : ¬ (k : Int) < (n : Int) := by omega
      have hJ2 : s.data.toList = joinC (dL l) := by
        rw [hJ.out, List.take_of_length_le (by rw [dL_len, HN.out]; omega)]
      clear hJ
      by_cases n0 : n = 0
      · have e0 : ((n : Int) == 0) = true := by rw [n0]; rfl
        have hl : dL l = [] := by
          have := HN.out
          rw [n0] at this
          exact List.eq_nil_of_length_eq_zero (by rw [dL_len]; exact this)
        have R : Hid (([33] : List UInt8) = textR (dL l)) := by
          show _ = _
          rw [hl]
          rfl
        clear hl n0 hJ2
        go_wp2_with fail
        go_ret
        exact ⟨⟨_, rfl, R.out⟩, rfl⟩
      · have e0 : ((n : Int) == 0) = false := by simp; omega
        have hl : dL l ≠ [] := by
          intro e
          have := congrArg List.length e
          rw [dL_len, HN.out] at this
          exact n0 this
        by_cases s0 : s.data.toList = []
        · have e1 : s.toList.isEmpty = true := by rw [emptyB, s0]; rfl
          have R : Hid (([42] : List UInt8) = textR (dL l)) := by
            show _ = _
            unfold textR
            rw [if_neg hl, if_pos (by rw [← hJ2]; exact s0)]
          clear hl n0 hJ2 s0
          go_wp2_with fail
          go_ret
          exact ⟨⟨_, rfl, R.out⟩, rfl⟩
        · have e1 : s.toList.isEmpty = false := by rw [emptyB]; simpa using s0
          have R : Hid (s.data.toList = textR (dL l)) := by
            show _ = _
            unfold textR
            rw [if_neg hl, if_neg (by rw [← hJ2]; exact s0), hJ2]
          clear hl n0 hJ2 s0
          go_wp2_with fail
          go_ret
          exact ⟨⟨_, rfl, R.out⟩, rfl⟩
end Go.Proofs.YtccdpbcldpmegaaDoor
