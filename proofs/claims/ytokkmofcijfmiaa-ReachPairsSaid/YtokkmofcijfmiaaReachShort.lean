/-
  WHAT IS PROVED: short tells whether a list is short. Conditions: those typed in the theorem.
-/
import Derived.Test.YtokkmofcijfmiaaGQ5
namespace Go.Proofs.Ytokkmofcijfmiaa
open Go.RowKit

/-- Not many, nor long. -/
def shortB (l : List ByteArray) : Bool := l.all (fun x => decide (x.size ≤ 100)) && decide (l.length ≤ 40)
theorem shortB_no {l : List ByteArray} {k : Nat} {x : ByteArray} (h : l[k]? = some x) (hx : ¬ x.size ≤ 100) : shortB l = false := by
  unfold shortB
  have : l.all (fun x => decide (x.size ≤ 100)) = false := by
    rw [List.all_eq_false]
    exact ⟨x, List.mem_of_getElem? h, by simpa using hx⟩
  rw [this, Bool.false_and]
theorem shortB_all {l : List ByteArray} (h : ∀ (k : Nat) (x : ByteArray), l[k]? = some x → x.size ≤ 100) : shortB l = decide (l.length ≤ 40) := by
  unfold shortB
  have : l.all (fun x => decide (x.size ≤ 100)) = true := by
    rw [List.all_eq_true]
    intro x hx
    obtain ⟨k, hk, rfl⟩ := List.getElem_of_mem hx
    exact decide_eq_true (h k _ (List.getElem?_eq_getElem hk))
  rw [this, Bool.true_and]
theorem shortB_yes {l : List ByteArray} (h : shortB l = true) : l.length ≤ 40 ∧ Sz 100 l := by
  unfold shortB at h
  rw [Bool.and_eq_true, List.all_eq_true, decide_eq_true_eq] at h
  exact ⟨h.2, fun x hx => of_decide_eq_true (h.1 x hx)⟩

set_option maxHeartbeats 1000000 in
theorem short_any {B : Nat} (A : Option Addr) (n c : Nat) (l : List ByteArray) (w : World) (hn : l.length = n) (hr : RdS B w A l) (hm : n ≤ maxLen) :
    Calls Try.prog 8 #[.slice A n c] w fun e w' => e = .returned (.bool (shortB l)) ∧ w = w' := by
  unfold maxLen at hm
  have HN := Lib.hid hn
  clear hn
  go_enter Try.func8, Try.ntmps8
  go_wp2_with fail
  go_loop [7] (fun i => ∃ k : Nat, k ≤ n ∧ i = .int .i64 k ∧ Hid (∀ (j : Nat) (x : ByteArray), j < k → l[j]? = some x → x.size ≤ 100)) (fun i => n - (intOf i).toNat)
  case atStart => exact ⟨0, Nat.zero_le _, rfl, fun j x hj => by omega⟩
  case round =>
    obtain ⟨k, hk, rfl, hA⟩ := hrel
    by_cases hlt : k < n
    · obtain ⟨x, hx⟩ := get_ex (show k < l.length by have := HN.out; omega)
      obtain ⟨ad, rfl, _, hc⟩ := hr k x hx
      have i1 : (0 : Int) ≤ (k : Int) := by omega
      have i2 : (k : Int) < (n : Int) := by omega
      have HX := Lib.hid hx
      clear hx
      by_cases hs : x.size ≤ 100
      · have i3 : (x.size : Int) ≤ 100 := by omega
        have HA2 : Hid (∀ (j : Nat) (y : ByteArray), j < k + 1 → l[j]? = some y → y.size ≤ 100) := fun j y hj hy => by
          by_cases e : j = k
          · subst e
            rw [HX.out] at hy
            injection hy with hy
            subst hy
            exact hs
          · exact hA.out j y (by omega) hy
        go_wp2_with fail
        go_round
        case rel => exact ⟨k + 1, by omega, by go_num, HA2⟩
        case measure => simp [intOf]; omega
      · have i3 : (100 : Int) < (x.size : Int) := by omega
        have R := Lib.hid (shortB_no HX.out hs)
        go_wp2_with fail
        go_ret
        exact ⟨ret_bool R.out.symm, rfl⟩
    · have hq : ¬ (k : Int) < (n : Int) := by omega
      have R : Hid (shortB l = decide (n ≤ 40)) := by
        show _ = _
        rw [shortB_all fun j x hx => hA.out j x (by have := HN.out; have := (List.getElem?_eq_some_iff.1 hx).1; omega) hx, HN.out]
      go_wp2_with fail
      go_ret
      refine ⟨ret_bool ?_, rfl⟩
      rw [R.out, Bool.eq_iff_iff]
      simp
      omega
theorem short_is {B : Nat} (A : Option Addr) (n c : Nat) (l : List ByteArray) (w : World) (b : Bool) (hb : shortB l = b) (hn : l.length = n) (hr : RdS B w A l) (hm : n ≤ maxLen) :
    Calls Try.prog 8 #[.slice A n c] w fun e w' => e = .returned (.bool b) ∧ w = w' := by
  subst hb
  exact short_any A n c l w hn hr hm
end Go.Proofs.Ytokkmofcijfmiaa
