/-
  WHAT IS PROVED: whether two lists of writes are the same (spinneyref03.Same), for all slices of writes. Conditions: those typed in the theorem.
-/
import Derived.Test.YtkfhkfddhijkcaaGQ3
namespace Go.Proofs.Ytkfhkfddhijkcaa
open Go.RowKit
attribute [local go_sem ↓] Go.wp_at_zero Go.wp_at_succ

theorem str_ext {a b : ByteArray} (h : a.toList = b.toList) : a = b := by
  rw [ByteArray.toList_eq, ByteArray.toList_eq] at h
  cases a
  cases b
  simp only at h
  congr 1
  exact Array.toList_inj.1 h
theorem wr_neq {x y : Wr} (h : x ≠ y) (W : World) : (binOp .neq 39 (.agg x.cells) (.agg y.cells)).run Try.prog W = .ok (.bool true) W := by
  go_simp
  intro h0 h1 h2 h3 h4 h5 h6 h7 h8 h9
  refine h ?_
  have e3 := str_ext h3
  have e6 := str_ext h6
  have e9 := str_ext h9
  cases x
  cases y
  simp only at h0 h1 h2 e3 h4 h5 e6 h7 h8 e9
  simp only [h0, h1, h2, e3, h4, h5, e6, h7, h8, e9]
theorem wr_eq (x : Wr) (W : World) : (binOp .neq 39 (.agg x.cells) (.agg x.cells)).run Try.prog W = .ok (.bool false) W := by
  go_simp
open Classical in
/-- The same lists? -/
noncomputable def sameW (l l2 : List Wr) : Bool := decide (l = l2)
theorem sameW_iff (l l2 : List Wr) : sameW l l2 = true ↔ l = l2 := by
  unfold sameW
  simp
theorem sameW_no {l l2 : List Wr} (h : l ≠ l2) : sameW l l2 = false := Bool.eq_false_iff.2 fun e => h ((sameW_iff l l2).1 e)
theorem sameW_yes {l l2 : List Wr} (h : l = l2) : sameW l l2 = true := (sameW_iff l l2).2 h

set_option maxRecDepth 100000 in
set_option maxHeartbeats 4000000 in
theorem refWrSame_any {B C : Nat} (A A2 : Option Addr) (n c m d : Nat) (l l2 : List Wr) (w : World) (hn : l.length = n) (hr : RdW B w A l) (_hB : B ≤ w.heap.size) (hm : n ≤ 1000000) (hn2 : l2.length = m) (hr2 : RdW C w A2 l2) (_hC : C ≤ w.heap.size) :
    Calls Try.prog 22 #[.slice A n c, .slice A2 m d] w fun e w' => e = .returned (.bool (sameW l l2)) ∧ Drn w w' := by
  have HN := Lib.hid hn
  have HN2 := Lib.hid hn2
  by_cases hnm : n = m
  · subst hnm
    clear hn hn2
    go_enter Try.func22, Try.ntmps22
    go_wp2_with fail
    go_loopw [13] (fun i wr => ∃ k : Nat, k ≤ n ∧ i = .int .i64 k ∧ Hid (l.take k = l2.take k) ∧ Drn w wr) (fun i _ => n - (intOf i).toNat)
    case atStart => exact ⟨0, Nat.zero_le _, rfl, rfl, Drn.refl _⟩
    case round =>
      obtain ⟨k, hk, rfl, hA, hD⟩ := hrel
      by_cases hlt : k < n
      · obtain ⟨x, hx⟩ : ∃ x, l[k]? = some x := ⟨_, List.getElem?_eq_getElem (show k < l.length by have := HN.out; omega)⟩
        obtain ⟨y, hy⟩ : ∃ y, l2[k]? = some y := ⟨_, List.getElem?_eq_getElem (show k < l2.length by have := HN2.out; omega)⟩
        obtain ⟨ad, rfl, _, hc⟩ := (hr.keep (hD.below B) (Nat.le_refl _)) k x hx
        obtain ⟨ad2, rfl, _, hc2⟩ := (hr2.keep (hD.below C) (Nat.le_refl _)) k y hy
        have i1 : (0 : Int) ≤ (k : Int) := by omega
        have i2 : (k : Int) < (n : Int) := by omega
        have HX := Lib.hid hx
        have HY := Lib.hid hy
        clear hx hy
        obtain ⟨c0, c1, c2, c3, c4, c5, c6, c7, c8, c9⟩ := wr_cells hc
        obtain ⟨d0, d1, d2, d3, d4, d5, d6, d7, d8, d9⟩ := wr_cells hc2
        clear hc hc2
        by_cases hxy : x = y
        · subst hxy
          have he := fun W => wr_eq x W
          have HA2 : Hid (l.take (k + 1) = l2.take (k + 1)) := by
            show _ = _
            rw [List.take_add_one, List.take_add_one, HX.out, HY.out, hA.out]
          clear hA
          go_wp2_with fail
          go_quiet (fail)
          go_wp2_with fail
          go_roundw
          case rel => exact ⟨k + 1, by omega, by go_num, HA2, hD.draws _⟩
          case measure => simp [intOf]; omega
        · have he := fun W => wr_neq hxy W
          have R := Lib.hid (sameW_no (l := l) (l2 := l2) fun e => by
            have h1 := HX.out
            rw [e, HY.out] at h1
            injection h1 with h1
            exact hxy h1.symm)
          clear hA hxy
          go_wp2_with fail
          go_quiet (fail)
          go_wp2_with fail
          go_ret
          exact ⟨ret_bool R.out.symm, hD.draws _⟩
      · have hq : ¬ (k : Int) < (n : Int) := by omega
        have R : Hid (sameW l l2 = true) := sameW_yes (by
          have h := hA.out
          rw [List.take_of_length_le (by have := HN.out; omega), List.take_of_length_le (by have := HN2.out; omega)] at h
          exact h)
        clear hA
        go_wp2_with fail
        go_ret
        exact ⟨ret_bool R.out.symm, hD⟩
  · have e0 : ((n : Int) != (m : Int)) = true := by rw [bne_iff_ne]; omega
    have R := Lib.hid (sameW_no (l := l) (l2 := l2) (fun e => hnm (by rw [← HN.out, ← HN2.out, e])))
    clear hnm hn hn2
    go_enter Try.func22, Try.ntmps22
    go_wp2_with fail
    go_ret
    exact ⟨ret_bool R.out.symm, Drn.refl _⟩
end Go.Proofs.Ytkfhkfddhijkcaa
