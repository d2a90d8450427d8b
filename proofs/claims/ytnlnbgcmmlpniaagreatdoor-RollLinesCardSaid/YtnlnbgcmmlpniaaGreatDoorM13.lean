/-
  WHAT IS PROVED: whether two lists of cells, of lines are the same (spinneyref07.Same, SameCells); lines as the document has them. Conditions: those typed in each theorem. · errors.Is and errors.As of Go's own text, walked, where package pack calls them: of no error, of its sentinel, of its own error type 'wrong'. Conditions: those typed in each theorem. · errors.As of Go's own text, walked, of an error of package pack's type 'wrong' with a target of that type: true, and the target holds it. Conditions: those typed in the theorem. · errors.As of Go's own text, walked, of an error of package pack's type 'wrong' with a target of that type: true, and the target holds it. Conditions: those typed in the theorem. · package pack's reader: answer (an error as a number), End: what they answer, as the chapter says. Conditions: those typed in each theorem.
-/
import Derived.Test.YtnlnbgcmmlpniaaGreatDoorM12
import Derived.Test.YtnlnbgcmmlpniaaGreatDoorM4
import Derived.Test.YtnlnbgcmmlpniaaGreatDoorM0
import Derived.WalkKit
import Derived.LaidEql
import Derived.Stop.Asserts
import Derived.RowKitTokens
import Derived.Lib.ReflectliteSlice
import Derived.Test.YtnlnbgcmmlpniaaGreatDoorM2
namespace Go.Proofs.YtnlnbgcmmlpniaaGreatDoor
open Go.RowKit
attribute [local go_sem ↓] Go.wp_at_zero Go.wp_at_succ

open Classical in
/-- The same lists? -/
noncomputable def sameG {α : Type} (l l2 : List α) : Bool := decide (l = l2)
open Classical in
theorem sameG_no {α : Type} {l l2 : List α} (h : l ≠ l2) : sameG l l2 = false := decide_eq_false h
open Classical in
theorem sameG_yes {α : Type} {l l2 : List α} (h : l = l2) : sameG l l2 = true := decide_eq_true h
theorem cl_neq {x y : Cl} (h : x ≠ y) (W : World) : (binOp .neq 128 (.agg x.cells) (.agg y.cells)).run Tryz.prog W = .ok (.bool true) W := by
  go_simp
  intro h0 h1 h2 h3
  refine h ?_
  have e0 := str_ext h0
  have e3 := str_ext h3
  cases x
  cases y
  simp only at e0 h1 h2 e3
  simp only [e0, h1, h2, e3]
theorem cl_eq (x : Cl) (W : World) : (binOp .neq 128 (.agg x.cells) (.agg x.cells)).run Tryz.prog W = .ok (.bool false) W := by
  go_simp
theorem ln_neq {x y : Ln} (h : x ≠ y) (W : World) : (binOp .neq 109 (.agg x.cells) (.agg y.cells)).run Tryz.prog W = .ok (.bool true) W := by
  go_simp
  intro hp h0 h1 h2 h3 h4 h5 h6 h7 h8 h9
  refine h ?_
  have e3 := str_ext h3
  have e6 := str_ext h6
  have e9 := str_ext h9
  obtain ⟨px, x⟩ := x
  obtain ⟨py, y⟩ := y
  cases x
  cases y
  simp only at hp h0 h1 h2 e3 h4 h5 e6 h7 h8 e9
  simp only [hp, h0, h1, h2, e3, h4, h5, e6, h7, h8, e9]
theorem ln_eq (x : Ln) (W : World) : (binOp .neq 109 (.agg x.cells) (.agg x.cells)).run Tryz.prog W = .ok (.bool false) W := by
  go_simp

set_option maxRecDepth 100000 in
set_option maxHeartbeats 4000000 in
theorem refSameC_any {B C : Nat} (A A2 : Option Addr) (n c m d : Nat) (l l2 : List Cl) (w : World) (hn : l.length = n) (hr : RdX 4 B w A (l.map Cl.cells)) (hm : n ≤ 1000000) (hn2 : l2.length = m) (hr2 : RdX 4 C w A2 (l2.map Cl.cells)) :
    Calls Tryz.prog 30 #[.slice A n c, .slice A2 m d] w fun e w' => e = .returned (.bool (sameG l l2)) ∧ Drn w w' := by
  have HN := Lib.hid hn
  have HN2 := Lib.hid hn2
  by_cases hnm : n = m
  · subst hnm
    clear hn hn2
    go_enter Tryz.func30, Tryz.ntmps30
    go_wp2_with fail
    go_loopw [13] (fun i wr => ∃ k : Nat, k ≤ n ∧ i = .int .i64 k ∧ Hid (l.take k = l2.take k) ∧ Drn w wr) (fun i _ => n - (intOf i).toNat)
    case atStart => exact ⟨0, Nat.zero_le _, rfl, rfl, Drn.refl _⟩
    case round =>
      obtain ⟨k, hk, rfl, hA, hD⟩ := hrel
      by_cases hlt : k < n
      · obtain ⟨x, hx⟩ : ∃ x, l[k]? = some x := ⟨_, List.getElem?_eq_getElem (show k < l.length by have := HN.out; omega)⟩
        obtain ⟨y, hy⟩ : ∃ y, l2[k]? = some y := ⟨_, List.getElem?_eq_getElem (show k < l2.length by have := HN2.out; omega)⟩
        obtain ⟨ad, rfl, _, hc⟩ := (hr.keep (hD.below B) (Nat.le_refl _)) k _ (map_getR hx)
        obtain ⟨ad2, rfl, _, hc2⟩ := (hr2.keep (hD.below C) (Nat.le_refl _)) k _ (map_getR hy)
        have i1 : (0 : Int) ≤ (k : Int) := by omega
        have i2 : (k : Int) < (n : Int) := by omega
        have HX := Lib.hid hx
        have HY := Lib.hid hy
        clear hx hy
        have q0 : wr.cell? (ad.add (k * 4)) = some (.string x.ky) := (celX hc).1 _ rfl
        have q1 : wr.cell? ⟨(ad.add (k * 4)).block, (ad.add (k * 4)).off + 1, none⟩ = some (.int .i64 x.k) := (celX hc).2 0 _ rfl
        have q2 : wr.cell? ⟨(ad.add (k * 4)).block, (ad.add (k * 4)).off + 2, none⟩ = some (.int .i64 x.x) := (celX hc).2 1 _ rfl
        have q3 : wr.cell? ⟨(ad.add (k * 4)).block, (ad.add (k * 4)).off + 3, none⟩ = some (.string x.s) := (celX hc).2 2 _ rfl
        have y0 : wr.cell? (ad2.add (k * 4)) = some (.string y.ky) := (celX hc2).1 _ rfl
        have y1 : wr.cell? ⟨(ad2.add (k * 4)).block, (ad2.add (k * 4)).off + 1, none⟩ = some (.int .i64 y.k) := (celX hc2).2 0 _ rfl
        have y2 : wr.cell? ⟨(ad2.add (k * 4)).block, (ad2.add (k * 4)).off + 2, none⟩ = some (.int .i64 y.x) := (celX hc2).2 1 _ rfl
        have y3 : wr.cell? ⟨(ad2.add (k * 4)).block, (ad2.add (k * 4)).off + 3, none⟩ = some (.string y.s) := (celX hc2).2 2 _ rfl
        clear hc hc2
        by_cases hxy : x = y
        · subst hxy
          have he := fun W => cl_eq x W
          have HA2 : Hid (l.take (k + 1) = l2.take (k + 1)) := by
            show _ = _
            rw [List.take_add_one, List.take_add_one, HX.out, HY.out, hA.out]
          clear hA
          go_wp2_with fail
          go_quiet (fail)
          go_wp2_with fail
          go_roundw
          case rel => exact ⟨k + 1, by omega, by go_num, HA2, hD.draws _⟩
          case measure => simp [intOf]; omega
        · have he := fun W => cl_neq hxy W
          have R : Hid (sameG l l2 = false) := sameG_no fun e => by
            have h := HX.out
            rw [e, HY.out] at h
            injection h with h
            exact hxy h.symm
          clear hxy hA
          go_wp2_with fail
          go_quiet (fail)
          go_wp2_with fail
          go_ret
          exact ⟨ret_bool R.out.symm, hD.draws _⟩
      · have hq : ¬ (k : Int) < (n : Int) := by omega
        have R : Hid (sameG l l2 = true) := by
          refine sameG_yes ?_
          have h := hA.out
          rw [List.take_of_length_le (by have := HN.out; omega), List.take_of_length_le (by have := HN2.out; omega)] at h
          exact h
        clear hA
        go_wp2_with fail
        go_ret
        exact ⟨ret_bool R.out.symm, hD⟩
  · have e0 : ((n : Int) != (m : Int)) = true := by rw [bne_iff_ne]; omega
    have R : Hid (sameG l l2 = false) := sameG_no fun e => by
      have h := HN.out
      rw [e, HN2.out] at h
      exact hnm h.symm
    clear hnm
    go_enter Tryz.func30, Tryz.ntmps30
    go_wp2_with fail
    go_ret
    exact ⟨ret_bool R.out.symm, Drn.refl _⟩

set_option maxRecDepth 100000 in
set_option maxHeartbeats 4000000 in
theorem refSameL_any {B C : Nat} (A A2 : Option Addr) (n c m d : Nat) (l l2 : List Ln) (w : World) (hn : l.length = n) (hr : RdX 11 B w A (l.map Ln.cells)) (hm : n ≤ 1000000) (hn2 : l2.length = m) (hr2 : RdX 11 C w A2 (l2.map Ln.cells)) :
    Calls Tryz.prog 23 #[.slice A n c, .slice A2 m d] w fun e w' => e = .returned (.bool (sameG l l2)) ∧ Drn w w' := by
  have HN := Lib.hid hn
  have HN2 := Lib.hid hn2
  by_cases hnm : n = m
  · subst hnm
    clear hn hn2
    go_enter Tryz.func23, Tryz.ntmps23
    go_wp2_with fail
    go_loopw [13] (fun i wr => ∃ k : Nat, k ≤ n ∧ i = .int .i64 k ∧ Hid (l.take k = l2.take k) ∧ Drn w wr) (fun i _ => n - (intOf i).toNat)
    case atStart => exact ⟨0, Nat.zero_le _, rfl, rfl, Drn.refl _⟩
    case round =>
      obtain ⟨k, hk, rfl, hA, hD⟩ := hrel
      by_cases hlt : k < n
      · obtain ⟨x, hx⟩ : ∃ x, l[k]? = some x := ⟨_, List.getElem?_eq_getElem (show k < l.length by have := HN.out; omega)⟩
        obtain ⟨y, hy⟩ : ∃ y, l2[k]? = some y := ⟨_, List.getElem?_eq_getElem (show k < l2.length by have := HN2.out; omega)⟩
        obtain ⟨ad, rfl, _, hc⟩ := (hr.keep (hD.below B) (Nat.le_refl _)) k _ (map_getR hx)
        obtain ⟨ad2, rfl, _, hc2⟩ := (hr2.keep (hD.below C) (Nat.le_refl _)) k _ (map_getR hy)
        have i1 : (0 : Int) ≤ (k : Int) := by omega
        have i2 : (k : Int) < (n : Int) := by omega
        have HX := Lib.hid hx
        have HY := Lib.hid hy
        clear hx hy
        have q0 : wr.cell? (ad.add (k * 11)) = some (.int .i64 x.pl) := (celX hc).1 _ rfl
        have q1 : wr.cell? ⟨(ad.add (k * 11)).block, (ad.add (k * 11)).off + 1, none⟩ = some (.int .i64 x.w.dev) := (celX hc).2 0 _ rfl
        have q2 : wr.cell? ⟨(ad.add (k * 11)).block, (ad.add (k * 11)).off + 2, none⟩ = some (.int .i64 x.w.seq) := (celX hc).2 1 _ rfl
        have q3 : wr.cell? ⟨(ad.add (k * 11)).block, (ad.add (k * 11)).off + 3, none⟩ = some (.int .i64 x.w.K) := (celX hc).2 2 _ rfl
        have q4 : wr.cell? ⟨(ad.add (k * 11)).block, (ad.add (k * 11)).off + 4, none⟩ = some (.string x.w.ky) := (celX hc).2 3 _ rfl
        have q5 : wr.cell? ⟨(ad.add (k * 11)).block, (ad.add (k * 11)).off + 5, none⟩ = some (.int .i64 x.w.ka) := (celX hc).2 4 _ rfl
        have q6 : wr.cell? ⟨(ad.add (k * 11)).block, (ad.add (k * 11)).off + 6, none⟩ = some (.int .i64 x.w.na) := (celX hc).2 5 _ rfl
        have q7 : wr.cell? ⟨(ad.add (k * 11)).block, (ad.add (k * 11)).off + 7, none⟩ = some (.string x.w.sa) := (celX hc).2 6 _ rfl
        have q8 : wr.cell? ⟨(ad.add (k * 11)).block, (ad.add (k * 11)).off + 8, none⟩ = some (.int .i64 x.w.kb) := (celX hc).2 7 _ rfl
        have q9 : wr.cell? ⟨(ad.add (k * 11)).block, (ad.add (k * 11)).off + 9, none⟩ = some (.int .i64 x.w.nb) := (celX hc).2 8 _ rfl
        have q10 : wr.cell? ⟨(ad.add (k * 11)).block, (ad.add (k * 11)).off + 10, none⟩ = some (.string x.w.sb) := (celX hc).2 9 _ rfl
        have y0 : wr.cell? (ad2.add (k * 11)) = some (.int .i64 y.pl) := (celX hc2).1 _ rfl
        have y1 : wr.cell? ⟨(ad2.add (k * 11)).block, (ad2.add (k * 11)).off + 1, none⟩ = some (.int .i64 y.w.dev) := (celX hc2).2 0 _ rfl
        have y2 : wr.cell? ⟨(ad2.add (k * 11)).block, (ad2.add (k * 11)).off + 2, none⟩ = some (.int .i64 y.w.seq) := (celX hc2).2 1 _ rfl
        have y3 : wr.cell? ⟨(ad2.add (k * 11)).block, (ad2.add (k * 11)).off + 3, none⟩ = some (.int .i64 y.w.K) := (celX hc2).2 2 _ rfl
        have y4 : wr.cell? ⟨(ad2.add (k * 11)).block, (ad2.add (k * 11)).off + 4, none⟩ = some (.string y.w.ky) := (celX hc2).2 3 _ rfl
        have y5 : wr.cell? ⟨(ad2.add (k * 11)).block, (ad2.add (k * 11)).off + 5, none⟩ = some (.int .i64 y.w.ka) := (celX hc2).2 4 _ rfl
        have y6 : wr.cell? ⟨(ad2.add (k * 11)).block, (ad2.add (k * 11)).off + 6, none⟩ = some (.int .i64 y.w.na) := (celX hc2).2 5 _ rfl
        have y7 : wr.cell? ⟨(ad2.add (k * 11)).block, (ad2.add (k * 11)).off + 7, none⟩ = some (.string y.w.sa) := (celX hc2).2 6 _ rfl
        have y8 : wr.cell? ⟨(ad2.add (k * 11)).block, (ad2.add (k * 11)).off + 8, none⟩ = some (.int .i64 y.w.kb) := (celX hc2).2 7 _ rfl
        have y9 : wr.cell? ⟨(ad2.add (k * 11)).block, (ad2.add (k * 11)).off + 9, none⟩ = some (.int .i64 y.w.nb) := (celX hc2).2 8 _ rfl
        have y10 : wr.cell? ⟨(ad2.add (k * 11)).block, (ad2.add (k * 11)).off + 10, none⟩ = some (.string y.w.sb) := (celX hc2).2 9 _ rfl
        clear hc hc2
        by_cases hxy : x = y
        · subst hxy
          have he := fun W => ln_eq x W
          have HA2 : Hid (l.take (k + 1) = l2.take (k + 1)) := by
            show _ = _
            rw [List.take_add_one, List.take_add_one, HX.out, HY.out, hA.out]
          clear hA
          go_wp2_with fail
          go_quiet (fail)
          go_wp2_with fail
          go_roundw
          case rel => exact ⟨k + 1, by omega, by go_num, HA2, hD.draws _⟩
          case measure => simp [intOf]; omega
        · have he := fun W => ln_neq hxy W
          have R : Hid (sameG l l2 = false) := sameG_no fun e => by
            have h := HX.out
            rw [e, HY.out] at h
            injection h with h
            exact hxy h.symm
          clear hxy hA
          go_wp2_with fail
          go_quiet (fail)
          go_wp2_with fail
          go_ret
          exact ⟨ret_bool R.out.symm, hD.draws _⟩
      · have hq : ¬ (k : Int) < (n : Int) := by omega
        have R : Hid (sameG l l2 = true) := by
          refine sameG_yes ?_
          have h := hA.out
          rw [List.take_of_length_le (by have := HN.out; omega), List.take_of_length_le (by have := HN2.out; omega)] at h
          exact h
        clear hA
        go_wp2_with fail
        go_ret
        exact ⟨ret_bool R.out.symm, hD⟩
  · have e0 : ((n : Int) != (m : Int)) = true := by rw [bne_iff_ne]; omega
    have R : Hid (sameG l l2 = false) := sameG_no fun e => by
      have h := HN.out
      rw [e, HN2.out] at h
      exact hnm h.symm
    clear hnm
    go_enter Tryz.func23, Tryz.ntmps23
    go_wp2_with fail
    go_ret
    exact ⟨ret_bool R.out.symm, Drn.refl _⟩

set_option maxRecDepth 100000 in
set_option maxHeartbeats 4000000 in
theorem lines_any {B : Nat} (A : Option Addr) (n c : Nat) (l : List Ln) (w : World) (hn : l.length = n) (hr : RdX 11 B w A (l.map Ln.cells)) (hB : B ≤ w.heap.size) (hm : n ≤ 1000000000) :
    Calls Tryz.prog 19 #[.slice A n c] w fun e w' => (∃ (A' : Option Addr) (c' : Nat), e = .returned (.slice A' n c') ∧ OwnX 109 11 w.heap.size w' A' n c' (l.map Ln.cells)) ∧ Below w.heap.size w w' := by
  obtain ⟨i0, hi0, hz0, hz1, hz2⟩ := info_parts rl_info
  have HN := Lib.hid hn
  have HR := Lib.hid (fun W (h : Below w.heap.size w W) => hr.keep (W' := W) h hB)
  clear hn hr
  go_enter Tryz.func19, Tryz.ntmps19
  go_wp2_with fail
  go_loopw [3, 8] (fun u i wr => ∃ (k : Nat) (A3 : Option Addr) (c3 : Nat), k ≤ n ∧ i = .int .i64 k ∧ u = .slice A3 k c3 ∧ OwnX 109 11 w.heap.size wr A3 k c3 ((l.take k).map Ln.cells) ∧ Below w.heap.size w wr) (fun _ i _ => n - (intOf i).toNat)
  case atStart => exact ⟨0, none, 0, Nat.zero_le _, rfl, rfl, OwnX.nil _ _ _ _, Below.refl _ _⟩
  case round =>
    obtain ⟨k, A3, c3, hk, rfl, rfl, hO, hW⟩ := hrel
    by_cases hlt : k < n
    · obtain ⟨x, hx⟩ : ∃ x, l[k]? = some x := ⟨_, List.getElem?_eq_getElem (show k < l.length by have := HN.out; omega)⟩
      obtain ⟨ad, rfl, _, hc⟩ := HR.out wr hW k _ (map_getR hx)
      have i1 : (0 : Int) ≤ (k : Int) := by omega
      have i2 : (k : Int) < (n : Int) := by omega
      have HL : Hid ((l.take (k + 1)).map Ln.cells = (l.take k).map Ln.cells ++ [x.cells]) := by
        show _ = _
        rw [List.take_add_one, hx, List.map_append]
        rfl
      clear hx
      have q0 : wr.cell? (ad.add (k * 11)) = some (.int .i64 x.pl) := (celX hc).1 _ rfl
      have q1 : wr.cell? ⟨(ad.add (k * 11)).block, (ad.add (k * 11)).off + 1, none⟩ = some (.int .i64 x.w.dev) := (celX hc).2 0 _ rfl
      have q2 : wr.cell? ⟨(ad.add (k * 11)).block, (ad.add (k * 11)).off + 2, none⟩ = some (.int .i64 x.w.seq) := (celX hc).2 1 _ rfl
      have q3 : wr.cell? ⟨(ad.add (k * 11)).block, (ad.add (k * 11)).off + 3, none⟩ = some (.int .i64 x.w.K) := (celX hc).2 2 _ rfl
      have q4 : wr.cell? ⟨(ad.add (k * 11)).block, (ad.add (k * 11)).off + 4, none⟩ = some (.string x.w.ky) := (celX hc).2 3 _ rfl
      have q5 : wr.cell? ⟨(ad.add (k * 11)).block, (ad.add (k * 11)).off + 5, none⟩ = some (.int .i64 x.w.ka) := (celX hc).2 4 _ rfl
      have q6 : wr.cell? ⟨(ad.add (k * 11)).block, (ad.add (k * 11)).off + 6, none⟩ = some (.int .i64 x.w.na) := (celX hc).2 5 _ rfl
      have q7 : wr.cell? ⟨(ad.add (k * 11)).block, (ad.add (k * 11)).off + 7, none⟩ = some (.string x.w.sa) := (celX hc).2 6 _ rfl
      have q8 : wr.cell? ⟨(ad.add (k * 11)).block, (ad.add (k * 11)).off + 8, none⟩ = some (.int .i64 x.w.kb) := (celX hc).2 7 _ rfl
      have q9 : wr.cell? ⟨(ad.add (k * 11)).block, (ad.add (k * 11)).off + 9, none⟩ = some (.int .i64 x.w.nb) := (celX hc).2 8 _ rfl
      have q10 : wr.cell? ⟨(ad.add (k * 11)).block, (ad.add (k * 11)).off + 10, none⟩ = some (.string x.w.sb) := (celX hc).2 9 _ rfl
      clear hc
      go_upto_region 5 with fail
      have hX := blk_new wr x.cells 65
      have hW1 := ba hW (.cells x.cells 65)
      have hO1 := hO.keep (b0 wr (.cells x.cells 65))
      clear q0 q1 q2 q3 q4 q5 q6 q7 q8 q9 q10 hO hW
      generalize wr.alloc (.cells x.cells 65) = W1 at hX hW1 hO1 ⊢
      generalize wr.heap.size = bx at hX ⊢
      have c0 := hX.cell 0
      have c1 := hX.cell 1
      have c2 := hX.cell 2
      have c3 := hX.cell 3
      have c4 := hX.cell 4
      have c5 := hX.cell 5
      have c6 := hX.cell 6
      have c7 := hX.cell 7
      have c8 := hX.cell 8
      have c9 := hX.cell 9
      have c10 := hX.cell 10
      have hxx := newX W1 x.cells 109
      have hO2 := hO1.keep (b0 W1 (.cells x.cells 109))
      have hW2 := ba hW1 (.cells x.cells 109)
      have hz := hW2.size
      have hkb : k ≤ 1000000000 := by omega
      clear hO1 hW1
      go_wp2_with (at_builtin; refine wpList_apX (el := 109) (base := w.heap.size) (n := k) (l := (l.take k).map Ln.cells) (xx := x.cells) (by rfl) _ _ (by rfl) Tryz.underlying46 Tryz.underlying46 hi0 hz0 hz1 hz2 (by rfl) (by omega) (by omega) (by rfl) (by rfl) hO2 (by rfl) (ln_one x) hxx hkb hz ?_; intro A5 c5 w5 hO5 hb5)
      rw [← HL.out] at hO5
      go_roundw
      case rel => exact ⟨k + 1, A5, c5, by omega, by go_num, rfl, hO5, hW2.trans hb5⟩
      case measure => simp [intOf]; omega
    · have hq : ¬ (k : Int) < (n : Int) := by omega
      have hkn : k = n := by omega
      subst hkn
      have e : (l.take k).map Ln.cells = l.map Ln.cells := by rw [List.take_of_length_le (by have := HN.out; omega)]
      rw [e] at hO
      clear e
      go_wp2_with fail
      go_ret
      exact ⟨⟨A3, c3, rfl, hO⟩, hW⟩
end Go.Proofs.YtnlnbgcmmlpniaaGreatDoor

namespace Go.Proofs.YtnlnbgcmmlpniaaGreatDoor
open Go.RowKit Go.Extern.Stop Go.Stop Go.Extern

/-! Closed facts on the library's entries, at this program's types. -/
theorem eTypeOfS (v : Value) (w : World) : (Extern.ReflectliteType.typeOf #[.iface 231 v]).run Tryz.prog w = .ok (.iface 197 (.agg #[.pointer (some ⟨2, 231, none⟩)])) w := by kernel_rfl
/-- The model's entry of (rtype).Comparable, as it is found. -/
noncomputable def eCmp : Array Value → Sem Value := (Go.Extern.find Tryz.f188).getD fun _ => pure .nilIface
theorem eComparableS (w : World) : (eCmp #[.agg #[.pointer (some ⟨2, 231, none⟩)]]).run Tryz.prog w = .ok (.bool true) w := by kernel_rfl
theorem eMComparable (v : Value) (w : World) : (Go.method 361 197 v "Comparable").run Tryz.prog w = .ok (188, v) w := by kernel_rfl
theorem eComp : (Tryz.prog.info? 231).map (·.comparable) = some true := by kernel_rfl
theorem eSize : (Tryz.prog.info? 249).map (·.size) = some 1 := by kernel_rfl
theorem eNoIs (v : Value) (xT : TypeId) (w : World) : (Instr.typeAssert (.iface 108 v) xT 199 true).run Tryz.prog w = .ok (.tuple #[.nilIface, .bool false]) w := run_typeAssert_lacksB Tryz.underlying199 (by kernel_rfl) (by kernel_rfl) v xT w
theorem eNoUnwrap (v : Value) (xT : TypeId) (w : World) : (Instr.typeAssert (.iface 108 v) xT 202 true).run Tryz.prog w = .ok (.tuple #[.nilIface, .bool false]) w := run_typeAssert_lacksB Tryz.underlying202 (by kernel_rfl) (by kernel_rfl) v xT w
theorem eNoUnwraps (v : Value) (xT : TypeId) (w : World) : (Instr.typeAssert (.iface 108 v) xT 204 true).run Tryz.prog w = .ok (.tuple #[.nilIface, .bool false]) w := run_typeAssert_lacksB Tryz.underlying204 (by kernel_rfl) (by kernel_rfl) v xT w

/-- errors.Is(nil, the sentinel). -/
theorem is_nil (b : Addr) (w : World) :
    Calls Tryz.prog 93 #[.nilIface, .iface 231 (.pointer (some b))] w fun e w' => e = .returned (.bool false) ∧ w' = w := by
  have hn := run_eql_iface_nil_left (P := Tryz.prog) w 231 (.pointer (some b)) Tryz.underlying94
  go_enter Tryz.func93, Tryz.ntmps93
  go_wp2
  go_ret
  exact ⟨rfl, rfl⟩
/-- errors.Is(the sentinel, itself). -/
theorem is_same (a : Addr) (w : World) :
    Calls Tryz.prog 93 #[.iface 231 (.pointer (some a)), .iface 231 (.pointer (some a))] w fun e w' => e = .returned (.bool true) ∧ w' = w := by
  obtain ⟨i, hi, hcmp⟩ := Option.map_eq_some_iff.1 eComp
  obtain ⟨j, hj, hjs⟩ := Option.map_eq_some_iff.1 eSize
  have h8 := @run_callFunc_extern Tryz.prog 127 _ Extern.ReflectliteType.typeOf Tryz.func127 (by kernel_rfl) (by kernel_rfl) (by kernel_rfl) (by kernel_rfl)
  have h32 := @run_callFunc_extern Tryz.prog 188 _ eCmp Tryz.func188 (by kernel_rfl) (by kernel_rfl) (by kernel_rfl) (by kernel_rfl)
  have tT := eTypeOfS
  have cT := eComparableS
  have mR := eMComparable
  have heq := run_eql_iface_ptr_same (P := Tryz.prog) w a Tryz.underlying94 Tryz.underlying231 hi hcmp hj
  go_enter Tryz.func93, Tryz.ntmps93
  go_wp2
  refine wp_loop_rounds 1 ?_
  rw [rounds_succ]
  go_wp2
  go_ret
  exact ⟨rfl, rfl⟩
/-- errors.Is(an error of the type 'wrong', the sentinel). -/
theorem is_wrong (v : Value) (b : Addr) (w : World) :
    Calls Tryz.prog 93 #[.iface 108 v, .iface 231 (.pointer (some b))] w fun e w' => e = .returned (.bool false) ∧ w' = w := by
  have h8 := @run_callFunc_extern Tryz.prog 127 _ Extern.ReflectliteType.typeOf Tryz.func127 (by kernel_rfl) (by kernel_rfl) (by kernel_rfl) (by kernel_rfl)
  have h32 := @run_callFunc_extern Tryz.prog 188 _ eCmp Tryz.func188 (by kernel_rfl) (by kernel_rfl) (by kernel_rfl) (by kernel_rfl)
  have tT := eTypeOfS
  have cT := eComparableS
  have mR := eMComparable
  have nI := eNoIs
  have nU := eNoUnwrap
  have nV := eNoUnwraps
  have heq := run_eql_iface_types (P := Tryz.prog) 108 231 v (.pointer (some b)) Tryz.underlying94 (by decide) w
  go_enter Tryz.func93, Tryz.ntmps93
  go_wp2
  refine wp_loop_rounds 1 ?_
  rw [rounds_succ]
  go_wp2
  go_ret
  exact ⟨rfl, rfl⟩
/-- errors.As(nil, ..). -/
theorem as_nil (t : Value) (w : World) :
    Calls Tryz.prog 94 #[.nilIface, t] w fun e w' => e = .returned (.bool false) ∧ w' = w := by
  go_enter Tryz.func94, Tryz.ntmps94
  go_wp2
  go_ret
  exact ⟨rfl, rfl⟩
end Go.Proofs.YtnlnbgcmmlpniaaGreatDoor

namespace Go.Proofs.YtnlnbgcmmlpniaaGreatDoor
open Go.RowKit Go.Extern.Stop Go.Stop Go.Extern

theorem aValueOfP (t : Addr) (w : World) : (ReflectliteValue.unpack (.iface 153 (.pointer (some t)))).run Tryz.prog w
    = .ok (.agg #[.pointer (some ⟨2, 153, none⟩), .pointer (some ⟨w.heap.size, 0, none⟩), .int .u64 150]) (w.alloc (.cells #[.pointer (some t)] 153)) := by kernel_rfl
theorem aTypeP (a : Addr) (w : World) : (ReflectliteValue.methodAny (ReflectliteValue.valueError "reflectlite.Value.Type" 0) (fun t _ _ _ => ReflectliteType.toType t) #[.agg #[.pointer (some ⟨2, 153, none⟩), .pointer (some a), .int .u64 150]]).run Tryz.prog w
    = .ok (.iface 197 (.agg #[.pointer (some ⟨2, 153, none⟩)])) w := by kernel_rfl
theorem aMKind (h : Value) (w : World) : (Go.method 361 197 (.agg #[h]) "Kind").run Tryz.prog w = .ok (179, h) w := by kernel_rfl
theorem aMElem (h : Value) (w : World) : (Go.method 361 197 (.agg #[h]) "Elem").run Tryz.prog w = .ok (189, .agg #[h]) w := by kernel_rfl
theorem aMImplements (h : Value) (w : World) : (Go.method 361 197 (.agg #[h]) "Implements").run Tryz.prog w = .ok (190, .agg #[h]) w := by kernel_rfl
theorem aMAssignableTo (h : Value) (w : World) : (Go.method 361 197 (.agg #[h]) "AssignableTo").run Tryz.prog w = .ok (187, .agg #[h]) w := by kernel_rfl
/-- The model's entry of (*abi.Type).Kind, as it is found. -/
noncomputable def eKind : Array Value → Sem Value := (Go.Extern.find Tryz.f179).getD fun _ => pure .nilIface
theorem aKindP (w : World) : (eKind #[.pointer (some ⟨2, 153, none⟩)]).run Tryz.prog w = .ok (.int .u8 22) w := by kernel_rfl
theorem aKindW (w : World) : (eKind #[.pointer (some ⟨2, 108, none⟩)]).run Tryz.prog w = .ok (.int .u8 25) w := by kernel_rfl
theorem aElemP (w : World) : (ReflectliteType.method ReflectliteType.elem #[.agg #[.pointer (some ⟨2, 153, none⟩)]]).run Tryz.prog w = .ok (.iface 197 (.agg #[.pointer (some ⟨2, 108, none⟩)])) w := by kernel_rfl
theorem aImplementsW (w : World) : (ReflectliteType.relation "Implements" ReflectliteType.implements_ #[.agg #[.pointer (some ⟨2, 108, none⟩)], .iface 197 (.agg #[.pointer (some ⟨2, 94, none⟩)])]).run Tryz.prog w = .ok (.bool true) w := by kernel_rfl
theorem aTypeOfW (v : Value) (w : World) : (ReflectliteType.typeOf #[.iface 108 v]).run Tryz.prog w = .ok (.iface 197 (.agg #[.pointer (some ⟨2, 108, none⟩)])) w := by kernel_rfl
theorem aAssignableW (w : World) : (ReflectliteType.relation "AssignableTo" ReflectliteType.assignableTo #[.agg #[.pointer (some ⟨2, 108, none⟩)], .iface 197 (.agg #[.pointer (some ⟨2, 108, none⟩)])]).run Tryz.prog w = .ok (.bool true) w := by kernel_rfl
theorem aValueOfW (s : ByteArray) (n : Int) (w : World) : (ReflectliteValue.unpack (.iface 108 (.agg #[.string s, .int .i64 n]))).run Tryz.prog w
    = .ok (.agg #[.pointer (some ⟨2, 108, none⟩), .pointer (some ⟨w.heap.size, 0, none⟩), .int .u64 153]) (w.alloc (.cells #[.string s, .int .i64 n] 108)) := by kernel_rfl

theorem aPartsP (a : Addr) (w : World) : (ReflectliteValue.parts (.agg #[.pointer (some ⟨2, 153, none⟩), .pointer (some a), .int .u64 150])).run Tryz.prog w = .ok (some (153, a, 150)) w := by kernel_rfl
/-- (Value).IsNil of the target. -/
theorem aIsNilP (a p : Addr) (W : World) (ha : W.cell? a = some (.pointer (some p))) :
    (ReflectliteValue.method (ReflectliteValue.valueError "reflectlite.Value.IsNil" 0) ReflectliteValue.isNil #[.agg #[.pointer (some ⟨2, 153, none⟩), .pointer (some a), .int .u64 150]]).run Tryz.prog W = .ok (.bool false) W := by
  rw [Go.Lib.rl_method]
  simp only [Sem.run_bind, aPartsP, Result.andThen]
  simp [ReflectliteValue.isNil, loadVar, isAgg, underlying, Tryz.underlying153, ha, Result.andThen]
theorem aElemOfP (w : World) : (Rtype.elem? 153).run Tryz.prog w = .ok (some 108) w := by kernel_rfl
theorem aMkW (p : Addr) (w : World) : (ReflectliteValue.mk 108 p ReflectliteValue.flagAddr).run Tryz.prog w = .ok (.agg #[.pointer (some ⟨2, 108, none⟩), .pointer (some p), .int .u64 409]) w := by kernel_rfl
/-- (Value).Elem of the target: what it points to, addressable. -/
theorem aElemVP (a p : Addr) (W : World) (ha : W.cell? a = some (.pointer (some p))) :
    (ReflectliteValue.method (ReflectliteValue.valueError "reflectlite.Value.Elem" 0) ReflectliteValue.elem #[.agg #[.pointer (some ⟨2, 153, none⟩), .pointer (some a), .int .u64 150]]).run Tryz.prog W
      = .ok (.agg #[.pointer (some ⟨2, 108, none⟩), .pointer (some p), .int .u64 409]) W := by
  rw [Go.Lib.rl_method]
  simp only [Sem.run_bind, aPartsP, Result.andThen]
  simp [ReflectliteValue.elem, loadVar, isAgg, underlying, Tryz.underlying153, ha, Result.andThen, aElemOfP, aMkW]
theorem aPartsA (a : Addr) (w : World) : (ReflectliteValue.parts (.agg #[.pointer (some ⟨2, 108, none⟩), .pointer (some a), .int .u64 409])).run Tryz.prog w = .ok (some (108, a, 409)) w := by kernel_rfl
theorem aPartsW (a : Addr) (w : World) : (ReflectliteValue.parts (.agg #[.pointer (some ⟨2, 108, none⟩), .pointer (some a), .int .u64 153])).run Tryz.prog w = .ok (some (108, a, 153)) w := by kernel_rfl
theorem aDirectW (w : World) : (Rtype.directlyAssignable 108 108).run Tryz.prog w = .ok true w := by kernel_rfl
theorem aSizeW (w : World) : (sizeOf 108).run Tryz.prog w = .ok 2 w := by kernel_rfl
theorem aAggW (w : World) : (isAgg 108).run Tryz.prog w = .ok true w := by kernel_rfl
theorem aLoadW (b : Nat) (v0 v1 : Value) (W : World) (hb : Blk W b #[v0, v1] 108) : (loadVar 108 ⟨b, 0, none⟩).run Tryz.prog W = .ok (.agg #[v0, v1]) W := by
  have h0 := hb.cell 0
  have h1 := hb.cell 1
  simp [loadVar, loadCells, loadCellsFrom, Result.andThen, Addr.add, h0, h1]
/-- A store of both cells. -/
theorem aStoreW (b : Nat) (v0 v1 u0 u1 : Value) (W : World) (hb : Blk W b #[u0, u1] 108) (o0 : v0.oneCell' = true) (o1 : v1.oneCell' = true) :
    (storeVar 108 ⟨b, 0, none⟩ (.agg #[v0, v1])).run Tryz.prog W = .ok () ((W.setCell ⟨b, 0, none⟩ v0).setCell ⟨b, 1, none⟩ v1) := by
  have h0 := hb.cell 0
  have f0 := hb.free 0
  have h1 := (hb.set 0 v0).cell 1
  have f1 := (hb.set 0 v0).free 1
  simp [storeVar, Value.cells, storeCells, Addr.add, Result.andThen]
  rw [run_store Tryz.prog W ⟨b, 0, none⟩ _ _ o0]
  simp [h0, f0]
  rw [run_store Tryz.prog _ ⟨b, 1, none⟩ _ _ o1]
  simp [h1, f1]
/-- (Value).Set. -/
theorem aSetW (b c : Nat) (s : ByteArray) (n : Int) (u0 u1 : Value) (W : World) (hc : Blk W c #[.string s, .int .i64 n] 108) (hb : Blk W b #[u0, u1] 108) :
    (ReflectliteValue.set #[.agg #[.pointer (some ⟨2, 108, none⟩), .pointer (some ⟨b, 0, none⟩), .int .u64 409], .agg #[.pointer (some ⟨2, 108, none⟩), .pointer (some ⟨c, 0, none⟩), .int .u64 153]]).run Tryz.prog W
      = .ok (.tuple #[]) ((W.setCell ⟨b, 0, none⟩ (.string s)).setCell ⟨b, 1, none⟩ (.int .i64 n)) := by
  show Sem.run Tryz.prog (ReflectliteValue.parts (.agg #[.pointer (some ⟨2, 108, none⟩), .pointer (some ⟨b, 0, none⟩), .int .u64 409]) >>= fun _ => ReflectliteValue.parts (.agg #[.pointer (some ⟨2, 108, none⟩), .pointer (some ⟨c, 0, none⟩), .int .u64 153]) >>= _) W = _
  simp only [Sem.run_bind, aPartsA, aPartsW, Result.andThen]
  simp [ReflectliteValue.flagAddr, Result.andThen, aLoadW c _ _ W hc, aDirectW, aStoreW b (.string s) (.int .i64 n) u0 u1 W hb rfl rfl]
end Go.Proofs.YtnlnbgcmmlpniaaGreatDoor

namespace Go.Proofs.YtnlnbgcmmlpniaaGreatDoor
open Go.RowKit Go.Extern.Stop Go.Stop Go.Extern

set_option maxRecDepth 100000 in
set_option maxHeartbeats 4000000 in
theorem as_hit (b : Nat) (s : ByteArray) (n : Int) (u0 u1 : Value) (w : World) (hg : w.cell? ⟨1, 0, none⟩ = some (.iface 197 (.agg #[.pointer (some ⟨2, 94, none⟩)]))) (hb : Blk w b #[u0, u1] 108) :
    Calls Tryz.prog 94 #[.iface 108 (.agg #[.string s, .int .i64 n]), .iface 153 (.pointer (some ⟨b, 0, none⟩))] w fun ev w' => ev = .returned (.bool true) ∧ Blk w' b #[.string s, .int .i64 n] 108 ∧ Below b w w' := by
  have x1 := @run_callFunc_extern Tryz.prog 129 _ (fun args => ReflectliteValue.unpack (args.getD 0 (.tuple #[]))) Tryz.func129 (by kernel_rfl) (by kernel_rfl) (by kernel_rfl) (by kernel_rfl)
  have x2 := @run_callFunc_extern Tryz.prog 130 _ (ReflectliteValue.methodAny (ReflectliteValue.valueError "reflectlite.Value.Type" 0) (fun t _ _ _ => ReflectliteType.toType t)) Tryz.func130 (by kernel_rfl) (by kernel_rfl) (by kernel_rfl) (by kernel_rfl)
  have x3 := @run_callFunc_extern Tryz.prog 131 _ (ReflectliteValue.method (ReflectliteValue.valueError "reflectlite.Value.IsNil" 0) ReflectliteValue.isNil) Tryz.func131 (by kernel_rfl) (by kernel_rfl) (by kernel_rfl) (by kernel_rfl)
  have x4 := @run_callFunc_extern Tryz.prog 179 _ eKind Tryz.func179 (by kernel_rfl) (by kernel_rfl) (by kernel_rfl) (by kernel_rfl)
  have x5 := @run_callFunc_extern Tryz.prog 189 _ (ReflectliteType.method ReflectliteType.elem) Tryz.func189 (by kernel_rfl) (by kernel_rfl) (by kernel_rfl) (by kernel_rfl)
  have x6 := @run_callFunc_extern Tryz.prog 190 _ (ReflectliteType.relation "Implements" ReflectliteType.implements_) Tryz.func190 (by kernel_rfl) (by kernel_rfl) (by kernel_rfl) (by kernel_rfl)
  have x7 := @run_callFunc_extern Tryz.prog 127 _ ReflectliteType.typeOf Tryz.func127 (by kernel_rfl) (by kernel_rfl) (by kernel_rfl) (by kernel_rfl)
  have x8 := @run_callFunc_extern Tryz.prog 187 _ (ReflectliteType.relation "AssignableTo" ReflectliteType.assignableTo) Tryz.func187 (by kernel_rfl) (by kernel_rfl) (by kernel_rfl) (by kernel_rfl)
  have x9 := @run_callFunc_extern Tryz.prog 144 _ (ReflectliteValue.method (ReflectliteValue.valueError "reflectlite.Value.Elem" 0) ReflectliteValue.elem) Tryz.func144 (by kernel_rfl) (by kernel_rfl) (by kernel_rfl) (by kernel_rfl)
  have x10 := @run_callFunc_extern Tryz.prog 145 _ ReflectliteValue.set Tryz.func145 (by kernel_rfl) (by kernel_rfl) (by kernel_rfl) (by kernel_rfl)
  have v1 := aValueOfP
  have v2 := aTypeP
  have m1 := aMKind
  have m2 := aMElem
  have m3 := aMImplements
  have m4 := aMAssignableTo
  have k1 := aKindP
  have k2 := aKindW
  have e1 := aElemP
  have i1 := aImplementsW
  have t1 := aTypeOfW
  have a1 := aAssignableW
  have v3 := aValueOfW
  have hlg : 1 < w.heap.size := World.block_lt_of_cell? w _ hg
  have hlb := hb.lt
  let W1 := w.alloc (.cells #[.pointer (some ⟨b, 0, none⟩)] 153)
  let C : Array Value := #[.pointer (some ⟨2, 153, none⟩), .pointer (some ⟨w.heap.size, 0, none⟩), .int .u64 150]
  let W2 := W1.alloc (.cells C 182)
  let W3 := W2.alloc (.cells C 182)
  let W4 := W3.alloc (.cells #[.string s, .int .i64 n] 108)
  have c1 : W2.cell? ⟨w.heap.size, 0, none⟩ = some (.pointer (some ⟨b, 0, none⟩)) := ((blk_new w #[.pointer (some ⟨b, 0, none⟩)] 153).alloc _).cell 0
  have c2 : W3.cell? ⟨w.heap.size, 0, none⟩ = some (.pointer (some ⟨b, 0, none⟩)) := (((blk_new w #[.pointer (some ⟨b, 0, none⟩)] 153).alloc _).alloc _).cell 0
  have n8 := aIsNilP ⟨w.heap.size, 0, none⟩ ⟨b, 0, none⟩ W2 c1
  have hg2 : W2.cell? ⟨1, 0, none⟩ = some (.iface 197 (.agg #[.pointer (some ⟨2, 94, none⟩)])) := by
    have hB : Below w.heap.size w W2 := ((Below.refl _ w).alloc (Nat.le_refl _) _).alloc (by simp) _
    exact (hB.cell hlg).trans hg
  have el := aElemVP ⟨w.heap.size, 0, none⟩ ⟨b, 0, none⟩ W3 c2
  have hz3 : W3.heap.size = w.heap.size + 1 + 1 + 1 := by simp [W3, W2, W1]
  have st := aSetW b (w.heap.size + 1 + 1 + 1) s n u0 u1 W4 (blk_at (w := W3) hz3.symm _ _) ((((hb.alloc _).alloc _).alloc _).alloc _)
  have hfin : Blk ((W4.setCell ⟨b, 0, none⟩ (.string s)).setCell ⟨b, 1, none⟩ (.int .i64 n)) b #[.string s, .int .i64 n] 108 := by
    have h := (((((hb.alloc (.cells #[.pointer (some ⟨b, 0, none⟩)] 153)).alloc (.cells C 182)).alloc (.cells C 182)).alloc (.cells #[.string s, .int .i64 n] 108)).set 0 (.string s)).set 1 (.int .i64 n)
    exact h
  have hbel : Below b w ((W4.setCell ⟨b, 0, none⟩ (.string s)).setCell ⟨b, 1, none⟩ (.int .i64 n)) := by
    have h4 : Below w.heap.size w W4 := ba (ba (ba (b0 w _) _) _) _
    exact ((h4.mono (Nat.le_of_lt hlb)).setCell (p := ⟨b, 0, none⟩) (Nat.le_refl _) _).setCell (p := ⟨b, 1, none⟩) (Nat.le_refl _) _
  have HF := Lib.hid (And.intro hfin hbel)
  clear hfin hbel c1 c2 hz3
  simp only [W1, W2, W3, W4, C] at *
  go_enter Tryz.func94, Tryz.ntmps94
  go_wp2
  refine wp_loop_rounds 1 ?_
  rw [rounds_succ]
  go_wp2
  go_ret
  exact ⟨rfl, HF.out.1, HF.out.2⟩
end Go.Proofs.YtnlnbgcmmlpniaaGreatDoor

namespace Go.Proofs.YtnlnbgcmmlpniaaGreatDoor
open Go.RowKit

set_option maxRecDepth 100000 in
set_option maxHeartbeats 2000000 in
theorem answer_any (S : Addr) (e0 : Value) (w : World) (hL : LaidP S w) (he : ErrP S e0) :
    Calls Tryz.prog 51 #[e0] w fun e w' => e = .returned (.int .i64 2) ∧ Below w.heap.size w w' := by
  have hB := b0 w (.cells #[.string ⟨#[]⟩, .int .i64 0] 108)
  have hK := blk_new w #[.string ⟨#[]⟩, .int .i64 0] 108
  have hL0 := hL.keep hB
  have hS := hL0.2
  have hle := Nat.le_refl w.heap.size
  rcases he with rfl | ⟨s, rfl⟩
  · go_enter Tryz.func51, Tryz.ntmps51
    go_wp2_with fail
    generalize w.alloc (.cells #[.string ⟨#[]⟩, .int .i64 0] 108) = W at hB hK hL0 hS ⊢
    refine (is_same S W).mono ?_
    rintro e w1 ⟨rfl, rfl⟩
    go_wp2_with fail
    go_ret
    exact ⟨rfl, hB⟩
  · go_enter Tryz.func51, Tryz.ntmps51
    go_wp2_with fail
    generalize w.alloc (.cells #[.string ⟨#[]⟩, .int .i64 0] 108) = W at hB hK hL0 hS ⊢
    generalize hb : w.heap.size = b at hK ⊢
    refine (is_wrong _ S W).mono ?_
    rintro e w1 ⟨rfl, rfl⟩
    go_wp2_with fail
    refine (as_hit b s 2 _ _ w1 hL0.1 hK).mono ?_
    rintro e w2 ⟨rfl, hK2, hb2⟩
    have c1 := hK2.cell 1
    go_wp2_with fail
    go_ret
    exact ⟨rfl, hB.trans (by rw [hb]; exact hb2)⟩
set_option maxRecDepth 100000 in
theorem answer_nil (S : Addr) (w : World) (hL : LaidP S w) :
    Calls Tryz.prog 51 #[.nilIface] w fun e w' => e = .returned (.int .i64 0) ∧ Below w.heap.size w w' := by
  have hB := b0 w (.cells #[.string ⟨#[]⟩, .int .i64 0] 108)
  have hL0 := hL.keep hB
  have hS := hL0.2
  go_enter Tryz.func51, Tryz.ntmps51
  go_wp2_with fail
  generalize w.alloc (.cells #[.string ⟨#[]⟩, .int .i64 0] 108) = W at hB hL0 hS ⊢
  refine (is_nil S W).mono ?_
  rintro e w1 ⟨rfl, rfl⟩
  go_wp2_with fail
  refine (as_nil _ w1).mono ?_
  rintro e w2 ⟨rfl, rfl⟩
  go_wp2_with fail
  go_ret
  exact ⟨rfl, hB⟩

set_option maxRecDepth 100000 in
set_option maxHeartbeats 1000000 in
theorem rEnd_any (S : Addr) (g : Nat) (st : Rest) (w : World) (hL : LaidP S w) (hR : RdrP S w g st) :
    Calls Tryz.prog 17 #[.pointer (some ⟨g, 0, none⟩)] w fun e w' => e = .returned (.int .i64 (endOf st)) ∧ RdrP S w' g st ∧ w.grownBy w' (some g) := by
  have HR := Lib.hid hR
  cases st with
  | none =>
    obtain ⟨e1, he1, hb⟩ := hR
    obtain ⟨t1, v1, rfl⟩ := errP_nil he1
    have c0 := hb.cell 0
    have c1 := hb.cell 1
    go_enter Tryz.func17, Tryz.ntmps17
    go_wp2_with fail
    refine (answer_any S _ w hL he1).mono ?_
    rintro e w1 ⟨rfl, hb1⟩
    go_wp2_with fail
    go_ret
    exact ⟨rfl, HR.out.below hb1, grown_below hb1 _⟩
  | some b =>
    obtain ⟨hl, s, hs, hb⟩ := hR
    have c0 := hb.cell 0
    have c1 := hb.cell 1
    cases b with
    | nil =>
      have hE : s.toList.isEmpty = true := by rw [ByteArray.toList_eq, hs]; rfl
      go_enter Tryz.func17, Tryz.ntmps17
      go_wp2_with fail
      refine (answer_nil S w hL).mono ?_
      rintro e w1 ⟨rfl, hb1⟩
      go_wp2_with fail
      go_ret
      exact ⟨rfl, HR.out.below hb1, grown_below hb1 _⟩
    | cons c r =>
      have hE : s.toList.isEmpty = false := by rw [ByteArray.toList_eq, hs]; rfl
      go_enter Tryz.func17, Tryz.ntmps17
      go_wp2_with fail
      refine (answer_any S _ w hL (.inr ⟨_, rfl⟩)).mono ?_
      rintro e w1 ⟨rfl, hb1⟩
      go_wp2_with fail
      go_ret
      exact ⟨rfl, HR.out.below hb1, grown_below hb1 _⟩
end Go.Proofs.YtnlnbgcmmlpniaaGreatDoor
