/-
  WHAT IS PROVED: whether two lists of cells, of lines are the same (spinneyref07.Same, SameCells); lines as the document has them. Conditions: those typed in each theorem.
-/
import Derived.Test.YtnlnbgcmmlpniaaDoorM9
import Derived.Test.YtnlnbgcmmlpniaaDoorM3
namespace Go.Proofs.YtnlnbgcmmlpniaaDoor
open Go.RowKit
attribute [local go_sem ↓] Go.wp_at_zero Go.wp_at_succ

open Classical in
/-- The same lists? -/
noncomputable def sameG {α : Type} (l l2 : List α) : Bool := decide (l = l2)
open Classical in
theorem sameG_no {α : Type} {l l2 : List α} (h : l ≠ l2) : sameG l l2 = false := decide_eq_false h
open Classical in
theorem sameG_yes {α : Type} {l l2 : List α} (h : l = l2) : sameG l l2 = true := decide_eq_true h
theorem cl_neq {x y : Cl} (h : x ≠ y) (W : World) : (binOp .neq 44 (.agg x.cells) (.agg y.cells)).run Tryd.prog W = .ok (.bool true) W := by
  go_simp
  intro h0 h1 h2 h3
  refine h ?_
  have e0 := str_ext h0
  have e3 := str_ext h3
  cases x
  cases y
  simp only at e0 h1 h2 e3
  simp only [e0, h1, h2, e3]
theorem cl_eq (x : Cl) (W : World) : (binOp .neq 44 (.agg x.cells) (.agg x.cells)).run Tryd.prog W = .ok (.bool false) W := by
  go_simp
set_option maxRecDepth 100000 in
set_option maxHeartbeats 4000000 in
theorem refSameC_any {B C : Nat} (A A2 : Option Addr) (n c m d : Nat) (l l2 : List Cl) (w : World) (hn : l.length = n) (hr : RdX 4 B w A (l.map Cl.cells)) (hm : n ≤ 1000000) (hn2 : l2.length = m) (hr2 : RdX 4 C w A2 (l2.map Cl.cells)) :
    Calls Tryd.prog 10 #[.slice A n c, .slice A2 m d] w fun e w' => e = .returned (.bool (sameG l l2)) ∧ Drn w w' := by
  have HN := Lib.hid hn
  have HN2 := Lib.hid hn2
  by_cases hnm : n = m
  · subst hnm
    clear hn hn2
    go_enter Tryd.func10, Tryd.ntmps10
    go_wp2_with fail
    go_loopw [13] (fun i wr => ∃ k : Nat, k ≤ n ∧ i = .int .i64 k ∧ Hid (l.take k = l2.take k) ∧ Drn w wr) (fun i _ => n - (intOf i).toNat)
    case atStart => exact ⟨0, Nat.zero_le _, rfl, rfl, Drn.refl _⟩
    case round =>
      obtain ⟨k, hk, rfl, hA, hD⟩ := hrel
      by_cases hlt : k < n
      · obtain ⟨x, hx⟩ : ∃ x, l[k]? = some x := ⟨_, List.getElem?_eq_getElem (show k < l.length by have := HN.out; omega)⟩
        obtain ⟨y, hy⟩ : ∃ y, l2[k]? = some y := ⟨_, List.getElem?_eq_getElem (show k < l2.length by have := HN2.out; omega)⟩
        obtain ⟨ad, rfl, _, hc⟩ := (hr.keep (hD.below B) (Nat.le_refl _)) k _ (map_getR hx)
        obtain ⟨ad2, rfl, _, hc2⟩ := (hr2.keep (hD.below C) (Nat.le_refl _)) k _ (map_getR hy)
        have i1 : (0 : Int) ≤ (k : Int) := by omega
        have i2 : (k : Int) < (n : Int) := by omega
        have HX := Lib.hid hx
        have HY := Lib.hid hy
        clear hx hy
        have q0 : wr.cell? (ad.add (k * 4)) = some (.string x.ky) := (celX hc).1 _ rfl
        have q1 : wr.cell? ⟨(ad.add (k * 4)).block, (ad.add (k * 4)).off + 1, none⟩ = some (.int .i64 x.k) := (celX hc).2 0 _ rfl
        have q2 : wr.cell? ⟨(ad.add (k * 4)).block, (ad.add (k * 4)).off + 2, none⟩ = some (.int .i64 x.x) := (celX hc).2 1 _ rfl
        have q3 : wr.cell? ⟨(ad.add (k * 4)).block, (ad.add (k * 4)).off + 3, none⟩ = some (.string x.s) := (celX hc).2 2 _ rfl
        have y0 : wr.cell? (ad2.add (k * 4)) = some (.string y.ky) := (celX hc2).1 _ rfl
        have y1 : wr.cell? ⟨(ad2.add (k * 4)).block, (ad2.add (k * 4)).off + 1, none⟩ = some (.int .i64 y.k) := (celX hc2).2 0 _ rfl
        have y2 : wr.cell? ⟨(ad2.add (k * 4)).block, (ad2.add (k * 4)).off + 2, none⟩ = some (.int .i64 y.x) := (celX hc2).2 1 _ rfl
        have y3 : wr.cell? ⟨(ad2.add (k * 4)).block, (ad2.add (k * 4)).off + 3, none⟩ = some (.string y.s) := (celX hc2).2 2 _ rfl
        clear hc hc2
        by_cases hxy : x = y
        · subst hxy
          have he := fun W => cl_eq x W
          have HA2 : Hid (l.take (k + 1) = l2.take (k + 1)) := by
            show _ = _
            rw [List.take_add_one, List.take_add_one, HX.out, HY.out, hA.out]
          clear hA
          go_wp2_with fail
          go_quiet (fail)
          go_wp2_with fail
          go_roundw
          case rel => exact ⟨k + 1, by omega, by go_num, HA2, hD.draws _⟩
          case measure => simp [intOf]; omega
        · have he := fun W => cl_neq hxy W
          have R : Hid (sameG l l2 = false) := sameG_no fun e => by
            have h := HX.out
            rw [e, HY.out] at h
            injection h with h
            exact hxy h.symm
          clear hxy hA
          go_wp2_with fail
          go_quiet (fail)
          go_wp2_with fail
          go_ret
          exact ⟨ret_bool R.out.symm, hD.draws _⟩
      · have hq : ¬ (k : Int) < (n : Int) := by omega
        have R : Hid (sameG l l2 = true) := by
          refine sameG_yes ?_
          have h := hA.out
          rw [List.take_of_length_le (by have := HN.out; omega), List.take_of_length_le (by have := HN2.out; omega)] at h
          exact h
        clear hA
        go_wp2_with fail
        go_ret
        exact ⟨ret_bool R.out.symm, hD⟩
  · have e0 : ((n : Int) != (m : Int)) = true := by rw [bne_iff_ne]; omega
    have R : Hid (sameG l l2 = false) := sameG_no fun e => by
      have h := HN.out
      rw [e, HN2.out] at h
      exact hnm h.symm
    clear hnm
    go_enter Tryd.func10, Tryd.ntmps10
    go_wp2_with fail
    go_ret
    exact ⟨ret_bool R.out.symm, Drn.refl _⟩

end Go.Proofs.YtnlnbgcmmlpniaaDoor
