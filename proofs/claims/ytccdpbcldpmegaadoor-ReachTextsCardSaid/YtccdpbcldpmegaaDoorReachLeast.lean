/-
  WHAT IS PROVED: slices.Clone and slices.Sort of strings in the words of owned rows; reach.least answers a row of its own of what is left (leastOf). Conditions: those typed in each theorem.
-/
import Derived.Test.YtccdpbcldpmegaaDoorStrsOwn
import Derived.Test.YtccdpbcldpmegaaDoorReachHas
import Derived.Test.YtccdpbcldpmegaaDoorLeastMath
import Derived.Lib.OwnBridge
import Derived.Sort.Grow
namespace Go.Proofs.YtccdpbcldpmegaaDoor
open Go.RowKit

/-- A row of strings of the call's own that a call answered. -/
def AnsO (base : Nat) (R : List (List UInt8)) (e : Ending) (w' : World) : Prop :=
  ∃ (A : Option Addr) (c : Nat) (r : List ByteArray), e = .returned (.slice A R.length c) ∧ OwnS base w' A R.length c r ∧ dL r = R
theorem rd_nil_len {B : Nat} {W : World} {l : List ByteArray} (h : RdS B W none l) : l = [] := by
  cases l with
  | nil => rfl
  | cons x r =>
    obtain ⟨ad, he, _⟩ := h 0 x rfl
    cases he

set_option maxHeartbeats 1000000 in
theorem clone_any (A : Option Addr) (n c : Nat) (l : List ByteArray) (w : World) (hn : l.length = n) (hr : RdS w.heap.size w A l) (hm : n ≤ 1099511627776) :
    Calls Tryd.prog 37 #[.slice A n c] w fun e w' => (∃ (A' : Option Addr) (c' : Nat), e = .returned (.slice A' n c') ∧ OwnS w.heap.size w' A' n c' l) ∧ Below w.heap.size w w' := by
  obtain ⟨i0, hi0, hz0, hz1, hz2⟩ := info_parts str_info
  have q : ∀ (w : World) (a : Option Addr) (n c n' c' : Nat), (binOp .eql 22 (.slice a n c) (.slice none n' c')).run Tryd.prog w = .ok (.bool a.isNone) w := fun w a n c n' c' => Lib.run_eql_slice_nil w _ _ a n c n' c' Tryd.underlying22
  cases A with
  | none =>
    have h0 := rd_nil_len hr
    subst h0
    subst hn
    go_enter Tryd.func37, Tryd.ntmps37
    go_wp2_with fail
    go_ret
    exact ⟨⟨none, 0, rfl, OwnS.nil _ _⟩, Below.refl _ _⟩
  | some ad =>
    have HN := Lib.hid hn
    clear hn
    have hown : OwnS w.heap.size (w.alloc (.cells #[] 9)) (some ⟨w.heap.size, 0, none⟩) 0 0 [] := OwnS.lit w #[] [] rfl rfl (Nat.le_refl _) (Nat.zero_le _)
    have hr2 := hr.keep (b0 w (.cells #[] 9)) (Nat.le_refl _)
    go_enter Tryd.func37, Tryd.ntmps37
    go_wp2_with (at_builtin; refine wpList_apS (l := []) (l2 := l) (B := w.heap.size) rfl _ _ rfl Tryd.underlying22 Tryd.underlying22 hi0 hz0 hz1 hz2 rfl rfl hown hr2 HN.out n (Nat.zero_add n) (by omega) ?b ?_)
    case b => simp
    intro A' c' w' k1 k2 k3
    go_wp2_with fail
    go_ret
    exact ⟨⟨A', c', rfl, k1⟩, (b0 _ _).trans k2⟩

theorem below_grows (w : World) (os : Array Obj) : Below w.heap.size w (Sort.grow w os) :=
  ⟨rfl, rfl, rfl, by show w.heap.size ≤ (w.heap ++ os).size; rw [Array.size_append]; omega, fun _ hj => Sort.heap_grow_old w os hj⟩
/-- Their texts. -/
def baL (s : List (List UInt8)) : List ByteArray := s.map fun b => ⟨b.toArray⟩
theorem dL_baL (s : List (List UInt8)) : dL (baL s) = s := by
  unfold baL
  rw [dL, List.map_map]
  conv => rhs; rw [← List.map_id s]
  apply List.map_congr_left
  intro x _
  simp
theorem strV_enc (s : List (List UInt8)) : s.map encStr = strV (baL s) := by
  unfold baL
  rw [strV, List.map_map]
  rfl
theorem strV_dL (l : List ByteArray) : strV l = (dL l).map encStr := (Lib.map_encStr l).symm

theorem sort_any {base : Nat} (A : Option Addr) (n c : Nat) (l : List ByteArray) (w : World) (h : OwnS base w A n c l) (hm : n ≤ 1099511627776) (hb : base ≤ w.heap.size) :
    Calls Tryd.prog 38 #[.slice A n c] w fun e w' => e = .returned (.tuple #[]) ∧ OwnS base w' A n c (baL (sortL (dL l))) ∧ Below base w w' := by
  have hl := h.len
  by_cases h0 : n = 0
  · subst h0
    have e0 : l = [] := List.length_eq_zero_iff.1 hl
    subst e0
    refine (Tryd.slices_Sort_string_none A c w).mono ?_
    rintro e w' ⟨rfl, rfl⟩
    refine ⟨rfl, ?_, Below.refl _ _⟩
    have e1 : baL (sortL (dL [])) = [] := by simp [sortL, baL]
    rw [e1]
    exact h
  · have hown : w.ownsRow base 9 1 (.slice A n c) n ((dL l).map encStr) := by rw [← strV_dL]; exact h
    have hne : (Value.slice A n c) ≠ .slice none 0 0 := by
      intro e
      injection e with _ e2 _
      exact h0 e2
    obtain ⟨g, cap, hv, hbg, hg, hnc, hcm, hlen, hH⟩ := Lib.holds_of_ownsRow hown hne
    injection hv with hv1 _ hv3
    subst hv1
    subst hv3
    have hs : (dL l).length < 4611686018427387904 := by rw [hlen]; omega
    have hcall := Tryd.slices_Sort_string g 0 c (dL l) w hH hg hs
    rw [hlen] at hcall
    refine hcall.mono ?_
    rintro e w' ⟨rfl, k, os, rfl⟩
    have hput := Lib.ownsRow_putRow (q := k) (k := n) (ys := sortL (dL l)) hown (by rw [sortL_len]; exact hlen) (Nat.le_refl _)
    rw [List.take_of_length_le (by rw [sortL_len]; omega), strV_enc] at hput
    have hbel := Lib.below_putRow (enc := encStr) (B := base) (w0 := w) (w := w) (g := g) (q := k) (d := (sortL (dL l)).toArray) (Below.refl _ _) hbg
    have hgrow := below_grows (Sort.putRow encStr (Sort.ahead w k) g 0 (sortL (dL l)).toArray) os
    have hput2 : OwnS base (Sort.putRow encStr (Sort.ahead w k) g 0 (sortL (dL l)).toArray) (some ⟨g, 0, none⟩) n c (baL (sortL (dL l))) := hput
    exact ⟨rfl, hput2.keep hgrow, hbel.trans (hgrow.mono (Nat.le_trans hb hbel.size))⟩
theorem baL_len (s : List (List UInt8)) : (baL s).length = s.length := by simp [baL]
theorem baL_get {s : List (List UInt8)} {k : Nat} (h : k < s.length) : (baL s)[k]? = some ⟨s[k].toArray⟩ := by simp [baL, h]
end Go.Proofs.YtccdpbcldpmegaaDoor
