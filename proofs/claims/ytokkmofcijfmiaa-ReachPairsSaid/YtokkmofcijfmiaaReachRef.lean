/-
  WHAT IS PROVED: of the document's answers for reaches (spinneyref04): Has, Covers, for all slices of strings. Conditions: those typed in each theorem.
-/
import Derived.Test.YtokkmofcijfmiaaGQ1
namespace Go.Proofs.Ytokkmofcijfmiaa
open Go.RowKit

set_option maxHeartbeats 1000000 in
theorem refHas_any {B : Nat} (A : Option Addr) (n c : Nat) (l : List ByteArray) (key : ByteArray) (w : World) (hn : l.length = n) (hr : RdS B w A l) (hm : n ≤ maxLen) :
    Calls Try.prog 47 #[.slice A n c, .string key] w fun e w' => e = .returned (.bool (hasB (dL l) key.data.toList)) ∧ w = w' := by
  unfold maxLen at hm
  have HN := Lib.hid hn
  clear hn
  go_enter Try.func47, Try.ntmps47
  go_wp2_with fail
  go_loop [8] (fun i => ∃ k : Nat, k ≤ n ∧ i = .int .i64 k ∧ Hid (∀ j, j < k → begB (atR (dL l) j) key.data.toList = false)) (fun i => n - (intOf i).toNat)
  case atStart => exact ⟨0, Nat.zero_le _, rfl, fun j hj => by omega⟩
  case round =>
    obtain ⟨k, hk, rfl, hA⟩ := hrel
    by_cases hlt : k < n
    · obtain ⟨x, hx⟩ := get_ex (show k < l.length by have := HN.out; omega)
      obtain ⟨ad, rfl, _, hc⟩ := hr k x hx
      have i1 : (0 : Int) ≤ (k : Int) := by omega
      have i2 : (k : Int) < (n : Int) := by omega
      have HX := Lib.hid hx
      clear hx
      by_cases hb : begB x.data.toList key.data.toList = true
      · have HB := Lib.hid hb
        clear hb
        go_wp2_with (go_at_call 41; refine (begins_is _ _ true HB.out _).mono ?_; rintro e w2 ⟨rfl, rfl⟩)
        go_ret
        exact ⟨ret_bool (hasB_yes (dL_get HX.out) HB.out).symm, rfl⟩
      · have HB := Lib.hid (Bool.eq_false_iff.2 hb)
        clear hb
        go_wp2_with (go_at_call 41; refine (begins_is _ _ false HB.out _).mono ?_; rintro e w2 ⟨rfl, rfl⟩)
        go_round
        case rel =>
          refine ⟨k + 1, by omega, by go_num, fun j hj => ?_⟩
          by_cases e : j = k
          · subst e
            rw [dL_at HX.out]
            exact HB.out
          · exact hA.out j (by omega)
        case measure => simp [intOf]; omega
    · have hq : ¬ (k : Int) < (n : Int) := by omega
      have R : Hid (hasB (dL l) key.data.toList = false) := hasB_no fun j hj => hA.out j (by have := HN.out; rw [dL_len] at hj; omega)
      go_wp2_with fail
      go_ret
      exact ⟨ret_bool R.out.symm, rfl⟩
theorem refHas_is {B : Nat} {A : Option Addr} {n c : Nat} {l : List ByteArray} {key : ByteArray} (w : World) (b : Bool) (hb : hasB (dL l) key.data.toList = b) (hn : l.length = n) (hr : RdS B w A l) (hm : n ≤ maxLen) :
    Calls Try.prog 47 #[.slice A n c, .string key] w fun e w' => e = .returned (.bool b) ∧ w = w' := by
  subst hb
  exact refHas_any A n c l key w hn hr hm

set_option maxHeartbeats 1000000 in
theorem refCovers_any {B C : Nat} (A A2 : Option Addr) (n c m d : Nat) (l l2 : List ByteArray) (w : World) (hn : l.length = n) (hr : RdS B w A l) (hm : n ≤ maxLen) (hn2 : l2.length = m) (hr2 : RdS C w A2 l2) (hm2 : m ≤ maxLen) :
    Calls Try.prog 16 #[.slice A n c, .slice A2 m d] w fun e w' => e = .returned (.bool (covB (dL l) (dL l2))) ∧ w = w' := by
  have HM := Lib.hid hm
  unfold maxLen at hm2
  have HN := Lib.hid hn
  have HN2 := Lib.hid hn2
  clear hn hn2 hm
  go_enter Try.func16, Try.ntmps16
  go_wp2_with fail
  go_loop [8] (fun i => ∃ k : Nat, k ≤ m ∧ i = .int .i64 k ∧ Hid (∀ j, j < k → hasB (dL l) (atR (dL l2) j) = true)) (fun i => m - (intOf i).toNat)
  case atStart => exact ⟨0, Nat.zero_le _, rfl, fun j hj => by omega⟩
  case round =>
    obtain ⟨k, hk, rfl, hA⟩ := hrel
    by_cases hlt : k < m
    · obtain ⟨x, hx⟩ := get_ex (show k < l2.length by have := HN2.out; omega)
      obtain ⟨ad, rfl, _, hc⟩ := hr2 k x hx
      have i1 : (0 : Int) ≤ (k : Int) := by omega
      have i2 : (k : Int) < (m : Int) := by omega
      have HX := Lib.hid hx
      clear hx
      by_cases hb : hasB (dL l) x.data.toList = true
      · have HB := Lib.hid hb
        clear hb
        go_wp2_with (go_at_call 47; refine (refHas_is _ true HB.out HN.out hr HM.out).mono ?_; rintro e w2 ⟨rfl, rfl⟩)
        go_round
        case rel =>
          refine ⟨k + 1, by omega, by go_num, fun j hj => ?_⟩
          by_cases e : j = k
          · subst e
            rw [dL_at HX.out]
            exact HB.out
          · exact hA.out j (by omega)
        case measure => simp [intOf]; omega
      · have HB := Lib.hid (Bool.eq_false_iff.2 hb)
        clear hb
        go_wp2_with (go_at_call 47; refine (refHas_is _ false HB.out HN.out hr HM.out).mono ?_; rintro e w2 ⟨rfl, rfl⟩)
        go_ret
        exact ⟨ret_bool (covB_no (dL_get HX.out) HB.out).symm, rfl⟩
    · have hq : ¬ (k : Int) < (m : Int) := by omega
      have R : Hid (covB (dL l) (dL l2) = true) := covB_yes fun j hj => hA.out j (by have := HN2.out; rw [dL_len] at hj; omega)
      go_wp2_with fail
      go_ret
      exact ⟨ret_bool R.out.symm, rfl⟩
end Go.Proofs.Ytokkmofcijfmiaa
