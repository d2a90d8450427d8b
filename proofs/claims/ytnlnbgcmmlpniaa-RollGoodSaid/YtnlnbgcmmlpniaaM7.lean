/-
  WHAT IS PROVED: the document's bytes of reaches, cells, lines (spinneyref07.Reach, Cells, Lines). Conditions: those typed in each theorem. · the document's answers for lasts (spinneyref07.GoodLasts, Lasts, TakeLasts). Conditions: those typed in each theorem. · the document's taking of reaches, cells, lines from bytes (spinneyref07.TakeReach, TakeCells, TakeLines). Conditions: those typed in each theorem. · whether two lists of cells, of lines are the same (spinneyref07.Same, SameCells); lines as the document has them. Conditions: those typed in each theorem. · words for a block of twelve cells that stays (own work, over any program).
-/
import Derived.Test.YtnlnbgcmmlpniaaRRefGood
import Derived.Test.YtnlnbgcmmlpniaaM2
import Derived.Test.YtnlnbgcmmlpniaaM6
import Derived.Test.YtnlnbgcmmlpniaaM4
import Derived.Test.YtnlnbgcmmlpniaaM5
import Derived.Deep.MidRow
namespace Go.Proofs.Ytnlnbgcmmlpniaa
open Go.RowKit
attribute [local go_sem ↓] Go.wp_at_zero Go.wp_at_succ

section
variable {w0 W w' w1 : World} {p0 p1 p2 p3 : Addr} {v0 v1 v2 v3 : Value}
theorem fp4_2 (h : w'.cell? p0 = some v0 ∧ w'.cell? p1 = some v1 ∧ w'.cell? p2 = some v2 ∧ w'.cell? p3 = some v3 ∧ Below w0.heap.size w0 w') (l0 : p0.block < w0.heap.size) (l1 : p1.block < w0.heap.size) (l2 : p2.block < w0.heap.size) (l3 : p3.block < w0.heap.size) (hb : Below w0.heap.size w' w1) : w1.cell? p0 = some v0 ∧ w1.cell? p1 = some v1 ∧ w1.cell? p2 = some v2 ∧ w1.cell? p3 = some v3 ∧ Below w0.heap.size w0 w1 :=
  ⟨(hb.cell l0).trans h.1, (hb.cell l1).trans h.2.1, (hb.cell l2).trans h.2.2.1, (hb.cell l3).trans h.2.2.2.1, (h.2.2.2.2).trans hb⟩
end

section
variable {w0 W w' w1 : World} {p0 p1 p2 p3 p4 p5 p6 p7 p8 p9 p10 : Addr} {v0 v1 v2 v3 v4 v5 v6 v7 v8 v9 v10 : Value}
theorem fp11_2 (h : w'.cell? p0 = some v0 ∧ w'.cell? p1 = some v1 ∧ w'.cell? p2 = some v2 ∧ w'.cell? p3 = some v3 ∧ w'.cell? p4 = some v4 ∧ w'.cell? p5 = some v5 ∧ w'.cell? p6 = some v6 ∧ w'.cell? p7 = some v7 ∧ w'.cell? p8 = some v8 ∧ w'.cell? p9 = some v9 ∧ w'.cell? p10 = some v10 ∧ Below w0.heap.size w0 w') (l0 : p0.block < w0.heap.size) (l1 : p1.block < w0.heap.size) (l2 : p2.block < w0.heap.size) (l3 : p3.block < w0.heap.size) (l4 : p4.block < w0.heap.size) (l5 : p5.block < w0.heap.size) (l6 : p6.block < w0.heap.size) (l7 : p7.block < w0.heap.size) (l8 : p8.block < w0.heap.size) (l9 : p9.block < w0.heap.size) (l10 : p10.block < w0.heap.size) (hb : Below w0.heap.size w' w1) : w1.cell? p0 = some v0 ∧ w1.cell? p1 = some v1 ∧ w1.cell? p2 = some v2 ∧ w1.cell? p3 = some v3 ∧ w1.cell? p4 = some v4 ∧ w1.cell? p5 = some v5 ∧ w1.cell? p6 = some v6 ∧ w1.cell? p7 = some v7 ∧ w1.cell? p8 = some v8 ∧ w1.cell? p9 = some v9 ∧ w1.cell? p10 = some v10 ∧ Below w0.heap.size w0 w1 :=
  ⟨(hb.cell l0).trans h.1, (hb.cell l1).trans h.2.1, (hb.cell l2).trans h.2.2.1, (hb.cell l3).trans h.2.2.2.1, (hb.cell l4).trans h.2.2.2.2.1, (hb.cell l5).trans h.2.2.2.2.2.1, (hb.cell l6).trans h.2.2.2.2.2.2.1, (hb.cell l7).trans h.2.2.2.2.2.2.2.1, (hb.cell l8).trans h.2.2.2.2.2.2.2.2.1, (hb.cell l9).trans h.2.2.2.2.2.2.2.2.2.1, (hb.cell l10).trans h.2.2.2.2.2.2.2.2.2.2.1, (h.2.2.2.2.2.2.2.2.2.2.2).trans hb⟩
end

abbrev strCR (x : ByteArray) : Array Value := #[.string x]
theorem take_flatR {α : Type} {E : α → List UInt8} {L : List UInt8} {l : List α} {k : Nat} {x : α} (h : l[k]? = some x) : L ++ (l.take k).flatMap E ++ E x = L ++ (l.take (k + 1)).flatMap E := by
  rw [List.take_add_one, h]
  simp

end Go.Proofs.Ytnlnbgcmmlpniaa

namespace Go.Proofs.Ytnlnbgcmmlpniaa
open Go.RowKit
attribute [local go_sem ↓] Go.wp_at_zero Go.wp_at_succ

theorem la_get (a0 a1 a2 a3 a4 a5 a6 a7 a8 a9 a10 a11 : Int) {j : Nat} (hj : j < 12) : ∃ x, (laL a0 a1 a2 a3 a4 a5 a6 a7 a8 a9 a10 a11)[j]? = some x := ⟨_, List.getElem?_eq_getElem (by simpa using hj)⟩
theorem la_cell {W : World} {b j : Nat} {a0 a1 a2 a3 a4 a5 a6 a7 a8 a9 a10 a11 x : Int} {t : TypeId} (h : Blk W b (laI a0 a1 a2 a3 a4 a5 a6 a7 a8 a9 a10 a11) t) (hx : (laL a0 a1 a2 a3 a4 a5 a6 a7 a8 a9 a10 a11)[j]? = some x) : W.cell? ⟨b, j, none⟩ = some (.int .i64 x) := by
  rw [h.cell j]
  have hm := map_getR (f := Value.int .i64) hx
  have e : ((laL a0 a1 a2 a3 a4 a5 a6 a7 a8 a9 a10 a11).map (Value.int .i64)).toArray = laI a0 a1 a2 a3 a4 a5 a6 a7 a8 a9 a10 a11 := rfl
  rw [← e]
  simpa using hm

set_option maxRecDepth 100000 in
set_option maxHeartbeats 2000000 in
theorem refGoodLa_any (a0 a1 a2 a3 a4 a5 a6 a7 a8 a9 a10 a11 : Int) (w : World) :
    Calls Try.prog 8 #[.agg (laI a0 a1 a2 a3 a4 a5 a6 a7 a8 a9 a10 a11)] w fun e w' => e = .returned (.bool (goodLa (laL a0 a1 a2 a3 a4 a5 a6 a7 a8 a9 a10 a11))) ∧ Below w.heap.size w w' := by
  have hX0 := blk_new w (laI a0 a1 a2 a3 a4 a5 a6 a7 a8 a9 a10 a11) 23
  have hB0 := b0 w (.cells (laI a0 a1 a2 a3 a4 a5 a6 a7 a8 a9 a10 a11) 23)
  have HGD := Lib.hid (goodLa_is a0 a1 a2 a3 a4 a5 a6 a7 a8 a9 a10 a11)
  go_enter Try.func8, Try.ntmps8
  go_upto_region 1 with fail
  generalize w.alloc (.cells (laI a0 a1 a2 a3 a4 a5 a6 a7 a8 a9 a10 a11) 23) = W at hX0 hB0 ⊢
  generalize hb : w.heap.size = b at hX0 hB0 ⊢
  go_wp2_with fail
  go_loopw [3, 4] (fun _ i wr => ∃ j : Nat, j ≤ 12 ∧ i = .int .i64 j ∧ wr = W ∧ Hid (∀ x, x ∈ (laL a0 a1 a2 a3 a4 a5 a6 a7 a8 a9 a10 a11).take j → outI x = false)) (fun _ i _ => 12 - (intOf i).toNat)
  case atStart => exact ⟨0, by omega, by first | rfl | trivial, by first | rfl | trivial, fun x hx => by simp at hx⟩
  case round =>
    obtain ⟨j, hj, rfl, rfl, hA⟩ := hrel
    by_cases hlt : j < 12
    · obtain ⟨x, hx⟩ := la_get a0 a1 a2 a3 a4 a5 a6 a7 a8 a9 a10 a11 hlt
      have i1 : (0 : Int) ≤ (j : Int) := by omega
      have i2 : (j : Int) < 12 := by omega
      have q0 := la_cell hX0 hx
      have HX := Lib.hid hx
      clear hx
      by_cases h0 : x < 0
      · have R : Hid (false = goodLa (laL a0 a1 a2 a3 a4 a5 a6 a7 a8 a9 a10 a11)) := by
          show _ = _
          rw [HGD.out]
          have h1 : (laL a0 a1 a2 a3 a4 a5 a6 a7 a8 a9 a10 a11).any outI = true := List.any_eq_true.2 ⟨x, List.mem_of_getElem? HX.out, by unfold outI; rw [decide_eq_true h0]; rfl⟩
          rw [h1, Bool.not_true, Bool.and_false]
        clear HGD HX hA
        go_wp2_with fail
        go_ret
        exact ⟨ret_bool R.out, by first | exact hB0 | (rw [hb]; exact hB0)⟩
      · by_cases h1 : 40 < x
        · have R : Hid (false = goodLa (laL a0 a1 a2 a3 a4 a5 a6 a7 a8 a9 a10 a11)) := by
            show _ = _
            rw [HGD.out]
            have h1 : (laL a0 a1 a2 a3 a4 a5 a6 a7 a8 a9 a10 a11).any outI = true := List.any_eq_true.2 ⟨x, List.mem_of_getElem? HX.out, by unfold outI; rw [decide_eq_true h1, Bool.or_true]⟩
            rw [h1, Bool.not_true, Bool.and_false]
          clear HGD HX hA
          go_wp2_with fail
          go_ret
          exact ⟨ret_bool R.out, by first | exact hB0 | (rw [hb]; exact hB0)⟩
        · have HA2 : Hid (∀ y, y ∈ (laL a0 a1 a2 a3 a4 a5 a6 a7 a8 a9 a10 a11).take (j + 1) → outI y = false) := fun y hy => by
            rw [List.take_add_one, HX.out] at hy
            rcases List.mem_append.1 hy with h | h
            · exact hA.out y h
            · have e : y = x := by simpa using h
              rw [e]
              unfold outI
              rw [decide_eq_false h0, decide_eq_false h1]
              rfl
          clear hA HX
          go_wp2_with fail
          go_roundw
          case rel => exact ⟨j + 1, by omega, by go_num, by first | rfl | trivial, HA2⟩
          case measure => simp [intOf]; omega
    · have hq : ¬ (j : Int) < 12 := by omega
      have R : Hid ((a0 == 0) = goodLa (laL a0 a1 a2 a3 a4 a5 a6 a7 a8 a9 a10 a11)) := by
        show _ = _
        rw [HGD.out]
        have h1 : (laL a0 a1 a2 a3 a4 a5 a6 a7 a8 a9 a10 a11).any outI = false := by
          rw [List.any_eq_false]
          intro x hx
          rw [hA.out x (by rw [List.take_of_length_le (by simp; omega)]; exact hx)]
          exact Bool.false_ne_true
        rw [h1, Bool.not_false, Bool.and_true]
        rfl
      have q0 := hX0.cell 0
      clear HGD hA
      go_wp2_with fail
      go_ret
      exact ⟨ret_bool R.out, by first | exact hB0 | (rw [hb]; exact hB0)⟩

/-! TakeLasts. -/
def uZ (u : Nat → Nat) (j i : Nat) : Int := if i < j then (u i : Int) else 0
abbrev rowU (u : Nat → Nat) (j : Nat) : Array Value := laI (uZ u j 0) (uZ u j 1) (uZ u j 2) (uZ u j 3) (uZ u j 4) (uZ u j 5) (uZ u j 6) (uZ u j 7) (uZ u j 8) (uZ u j 9) (uZ u j 10) (uZ u j 11)
theorem rowU_set (u : Nat → Nat) {j : Nat} (hj : j < 12) : (rowU u j).setIfInBounds j (.int .i64 (u j : Int)) = rowU u (j + 1) := by
  have h : ∀ i, uZ u (j + 1) i = if i = j then (u j : Int) else uZ u j i := by
    intro i
    unfold uZ
    by_cases e : i = j
    · rw [if_pos e, if_pos (by omega), e]
    · rw [if_neg e]
      by_cases hi : i < j
      · rw [if_pos hi, if_pos (by omega)]
      · rw [if_neg hi, if_neg (by omega)]
  have hc : j = 0 ∨ j = 1 ∨ j = 2 ∨ j = 3 ∨ j = 4 ∨ j = 5 ∨ j = 6 ∨ j = 7 ∨ j = 8 ∨ j = 9 ∨ j = 10 ∨ j = 11 := by omega
  unfold rowU
  simp only [h]
  rcases hc with rfl | rfl | rfl | rfl | rfl | rfl | rfl | rfl | rfl | rfl | rfl | rfl <;> rfl
theorem rowU_at (u : Nat → Nat) (i : Nat) {j : Nat} (hj : j < 12) : (rowU u i)[j]? = some (.int .i64 (uZ u i j)) := by
  have hc : j = 0 ∨ j = 1 ∨ j = 2 ∨ j = 3 ∨ j = 4 ∨ j = 5 ∨ j = 6 ∨ j = 7 ∨ j = 8 ∨ j = 9 ∨ j = 10 ∨ j = 11 := by omega
  rcases hc with rfl | rfl | rfl | rfl | rfl | rfl | rfl | rfl | rfl | rfl | rfl | rfl <;> rfl
theorem rowU_all (u : Nat → Nat) : rowU u 12 = laI (u 0 : Int) (u 1 : Int) (u 2 : Int) (u 3 : Int) (u 4 : Int) (u 5 : Int) (u 6 : Int) (u 7 : Int) (u 8 : Int) (u 9 : Int) (u 10 : Int) (u 11 : Int) := rfl
theorem takeLa_list (b : List UInt8) : (listG takeLa1 b 0 12).map Int.ofNat = laL ((nthG takeLa1 b 0 0).1 : Int) ((nthG takeLa1 b 0 1).1 : Int) ((nthG takeLa1 b 0 2).1 : Int) ((nthG takeLa1 b 0 3).1 : Int) ((nthG takeLa1 b 0 4).1 : Int) ((nthG takeLa1 b 0 5).1 : Int) ((nthG takeLa1 b 0 6).1 : Int) ((nthG takeLa1 b 0 7).1 : Int) ((nthG takeLa1 b 0 8).1 : Int) ((nthG takeLa1 b 0 9).1 : Int) ((nthG takeLa1 b 0 10).1 : Int) ((nthG takeLa1 b 0 11).1 : Int) := rfl
theorem takeLaB_no {b : List UInt8} (h : (∃ j, j < 12 ∧ (nthG takeLa1 b 0 j).2 = 0) ∨ (nthG takeLa1 b 0 0).1 ≠ 0) : takeLaB b = (laL 0 0 0 0 0 0 0 0 0 0 0 0, 0) := by
  unfold takeLaB
  rw [if_neg]
  · rfl
  · rintro ⟨h1, h2⟩
    rcases h with ⟨j, hj, h⟩ | h
    · exact h1 j hj h
    · exact h h2
theorem takeLaB_yes {b : List UInt8} (h : StdG takeLa1 b 0 12) (h2 : (nthG takeLa1 b 0 0).1 = 0) : takeLaB b = ((listG takeLa1 b 0 12).map Int.ofNat, posG takeLa1 b 0 12) := if_pos ⟨h, h2⟩
theorem std_nextL {α : Type} {f : List UInt8 → α × Nat} {l : List UInt8} {k j : Nat} (hA : StdG f l k j) (h : (nthG f l k j).2 ≠ 0) : StdG f l k (j + 1) := by
  intro i hi
  by_cases e : i = j
  · rw [e]; exact h
  · exact hA i (by omega)
def TakeLaP (r : List Int × Nat) (w : World) (e : Ending) (w' : World) : Prop := e = .returned (.tuple #[.agg (lastsI r.1), .int .i64 (r.2 : Nat)]) ∧ Below w.heap.size w w'
end Go.Proofs.Ytnlnbgcmmlpniaa

namespace Go.Proofs.Ytnlnbgcmmlpniaa
open Go.RowKit
attribute [local go_sem ↓] Go.wp_at_zero Go.wp_at_succ

theorem rl_info : (Try.prog.info? 65).map (fun i => (i.zero, i.size, i.bytes)) = some (some (.agg (lnI 0 0 0 0 ⟨#[]⟩ 0 0 ⟨#[]⟩ 0 0 ⟨#[]⟩)), 11, 112) := by kernel_rfl
/-- What such a call answers: a slice that the call owns, and how many bytes. -/
def TakeXP {α : Type} (t : TypeId) (z : Nat) (cells : α → Array Value) (r : List α × Nat) (w : World) (e : Ending) (w' : World) : Prop :=
  (∃ (A : Option Addr) (n c : Nat), e = .returned (.tuple #[.slice A n c, .int .i64 (r.2 : Nat)]) ∧ OwnX t z w.heap.size w' A n c (r.1.map cells)) ∧ Below w.heap.size w w'
theorem rdS_ofR {B : Nat} {W : World} {A : Option Addr} {L : List (List UInt8)} (h : RdX 1 B W A (L.map preC)) : RdS B W A (baL L) := by
  intro k x hx
  unfold baL at hx
  rw [List.getElem?_map] at hx
  cases hy : L[k]? with
  | none => rw [hy] at hx; cases hx
  | some y =>
    rw [hy] at hx
    injection hx with hx
    subst hx
    obtain ⟨ad, hA, hl, hc⟩ := h k _ (map_getR hy)
    refine ⟨ad, hA, hl, ?_⟩
    have := hc 0 _ rfl
    rwa [Nat.mul_one, Nat.add_zero] at this
theorem takeText_20 (b : List UInt8) : (takeTextB b 20).1.length ≤ 20 := by
  by_cases h : (takeTextB b 20).2 = 0
  · unfold takeTextB at h ⊢
    split
    · exact Nat.zero_le _
    · rename_i h1
      rw [if_neg h1] at h
      dsimp only at h
      omega
  · exact (text_take (b := b) (most := 20) (k := (takeTextB b 20).2) (s := (takeTextB b 20).1) rfl h).1
theorem listG_all {α : Type} {f : List UInt8 → α × Nat} {P : α → Prop} (h : ∀ b, P (f b).1) (l : List UInt8) (p : Nat) : ∀ (j : Nat) (x : α), x ∈ listG f l p j → P x
  | 0, x, hx => by cases hx
  | j + 1, x, hx => by
    rw [listG_succ] at hx
    rcases List.mem_append.1 hx with hx | hx
    · exact listG_all h l p j x hx
    · rw [List.mem_singleton.1 hx]
      exact h _

theorem std_next {α : Type} {f : List UInt8 → α × Nat} {l : List UInt8} {k j : Nat} (hA : StdG f l k j) (h : (nthG f l k j).2 ≠ 0) : StdG f l k (j + 1) := by
  intro i hi
  by_cases e : i = j
  · rw [e]; exact h
  · exact hA i (by omega)
theorem arr_fitsR {l : List UInt8} {n : Nat} (h : l.length ≤ n) (hn : n ≤ 1000) : (⟨l.toArray⟩ : ByteArray).size ≤ maxLen := by
  show l.toArray.size ≤ maxLen
  unfold maxLen
  simp
  omega
theorem valOf_pos {b : List UInt8} (h : (takeValB b).2 ≠ 0) : valOf (some b) = ((takeValB b).1, some (b.drop (takeValB b).2)) := if_neg h
theorem val_fitsB {b : List UInt8} (h : (takeValB b).2 ≠ 0) : (-9223372036854775808 ≤ (takeValB b).1.2.1 ∧ (takeValB b).1.2.1 ≤ 9223372036854775807) ∧ (takeValB b).1.2.2.length ≤ 40 := by
  have hv := val_fits (some b)
  rw [valOf_pos h] at hv
  exact hv
theorem takeCl_fits (b : List UInt8) : (takeClB b).1.fits := by
  have hz : Cl.fits clNo := ⟨Nat.zero_le _, Nat.zero_le _, by show (-9223372036854775808 : Int) ≤ 0; omega, by show (0 : Int) ≤ 9223372036854775807; omega⟩
  unfold takeClB
  split
  · exact hz
  · rename_i h
    have hv := val_fitsB (b := b.drop (takeTextB b 20).2) (by omega)
    exact ⟨arr_fitsR (takeText_20 b) (by omega), arr_fitsR hv.2 (by omega), hv.1.1, hv.1.2⟩
theorem gotW_fits {b : List UInt8} (h1 : (textW b).1.length ≤ 20) (h2 : (-9223372036854775808 ≤ (val1W b).1.2.1 ∧ (val1W b).1.2.1 ≤ 9223372036854775807) ∧ (val1W b).1.2.2.length ≤ 40) (h3 : (-9223372036854775808 ≤ (val2W b).1.2.1 ∧ (val2W b).1.2.1 ≤ 9223372036854775807) ∧ (val2W b).1.2.2.length ≤ 40) : (gotW b).fits := by
  generalize hA : textW b = A at h1
  generalize hB : val1W b = B at h2
  generalize hC : val2W b = C at h3
  unfold gotW Wr.fits
  rw [hA, hB, hC]
  exact ⟨arr_fitsR h1 (by omega), arr_fitsR h2.2 (by omega), arr_fitsR h3.2 (by omega), h2.1, h3.1⟩
theorem takeWr_fits (b : List UInt8) : (takeWrB b).1.fits := by
  have hz : Wr.fits wrNo := ⟨Nat.zero_le _, Nat.zero_le _, Nat.zero_le _, ⟨by show (-9223372036854775808 : Int) ≤ 0; omega, by show (0 : Int) ≤ 9223372036854775807; omega⟩, ⟨by show (-9223372036854775808 : Int) ≤ 0; omega, by show (0 : Int) ≤ 9223372036854775807; omega⟩⟩
  by_cases h : stdW b
  · rw [takeWr_yes h]
    obtain ⟨_, _, h3, h4, _⟩ := h
    refine gotW_fits (takeText_20 _) ?_ ?_
    · unfold val1W at h3 ⊢
      exact val_fitsB h3
    · unfold val2W at h4 ⊢
      exact val_fitsB h4
  · rw [takeWr_no h]
    exact hz
theorem takeLn_fits (b : List UInt8) : (takeLnB b).1.fits := by
  unfold takeLnB
  split
  · exact ⟨Nat.zero_le _, Nat.zero_le _, Nat.zero_le _, ⟨by show (-9223372036854775808 : Int) ≤ 0; omega, by show (0 : Int) ≤ 9223372036854775807; omega⟩, ⟨by show (-9223372036854775808 : Int) ≤ 0; omega, by show (0 : Int) ≤ 9223372036854775807; omega⟩⟩
  · exact takeWr_fits _

end Go.Proofs.Ytnlnbgcmmlpniaa

namespace Go.Proofs.Ytnlnbgcmmlpniaa
open Go.RowKit
attribute [local go_sem ↓] Go.wp_at_zero Go.wp_at_succ

open Classical in
/-- The same lists? -/
noncomputable def sameG {α : Type} (l l2 : List α) : Bool := decide (l = l2)
open Classical in
theorem sameG_no {α : Type} {l l2 : List α} (h : l ≠ l2) : sameG l l2 = false := decide_eq_false h
open Classical in
theorem sameG_yes {α : Type} {l l2 : List α} (h : l = l2) : sameG l l2 = true := decide_eq_true h
theorem cl_neq {x y : Cl} (h : x ≠ y) (W : World) : (binOp .neq 45 (.agg x.cells) (.agg y.cells)).run Try.prog W = .ok (.bool true) W := by
  go_simp
  intro h0 h1 h2 h3
  refine h ?_
  have e0 := str_ext h0
  have e3 := str_ext h3
  cases x
  cases y
  simp only at e0 h1 h2 e3
  simp only [e0, h1, h2, e3]
theorem cl_eq (x : Cl) (W : World) : (binOp .neq 45 (.agg x.cells) (.agg x.cells)).run Try.prog W = .ok (.bool false) W := by
  go_simp
theorem ln_neq {x y : Ln} (h : x ≠ y) (W : World) : (binOp .neq 65 (.agg x.cells) (.agg y.cells)).run Try.prog W = .ok (.bool true) W := by
  go_simp
  intro hp h0 h1 h2 h3 h4 h5 h6 h7 h8 h9
  refine h ?_
  have e3 := str_ext h3
  have e6 := str_ext h6
  have e9 := str_ext h9
  obtain ⟨px, x⟩ := x
  obtain ⟨py, y⟩ := y
  cases x
  cases y
  simp only at hp h0 h1 h2 e3 h4 h5 e6 h7 h8 e9
  simp only [hp, h0, h1, h2, e3, h4, h5, e6, h7, h8, e9]
theorem ln_eq (x : Ln) (W : World) : (binOp .neq 65 (.agg x.cells) (.agg x.cells)).run Try.prog W = .ok (.bool false) W := by
  go_simp

set_option maxRecDepth 100000 in
set_option maxHeartbeats 4000000 in
theorem lines_any {B : Nat} (A : Option Addr) (n c : Nat) (l : List Ln) (w : World) (hn : l.length = n) (hr : RdX 11 B w A (l.map Ln.cells)) (hB : B ≤ w.heap.size) (hm : n ≤ 1000000000) :
    Calls Try.prog 11 #[.slice A n c] w fun e w' => (∃ (A' : Option Addr) (c' : Nat), e = .returned (.slice A' n c') ∧ OwnX 65 11 w.heap.size w' A' n c' (l.map Ln.cells)) ∧ Below w.heap.size w w' := by
  obtain ⟨i0, hi0, hz0, hz1, hz2⟩ := info_parts rl_info
  have HN := Lib.hid hn
  have HR := Lib.hid (fun W (h : Below w.heap.size w W) => hr.keep (W' := W) h hB)
  clear hn hr
  go_enter Try.func11, Try.ntmps11
  go_wp2_with fail
  go_loopw [3, 8] (fun u i wr => ∃ (k : Nat) (A3 : Option Addr) (c3 : Nat), k ≤ n ∧ i = .int .i64 k ∧ u = .slice A3 k c3 ∧ OwnX 65 11 w.heap.size wr A3 k c3 ((l.take k).map Ln.cells) ∧ Below w.heap.size w wr) (fun _ i _ => n - (intOf i).toNat)
  case atStart => exact ⟨0, none, 0, Nat.zero_le _, rfl, rfl, OwnX.nil _ _ _ _, Below.refl _ _⟩
  case round =>
    obtain ⟨k, A3, c3, hk, rfl, rfl, hO, hW⟩ := hrel
    by_cases hlt : k < n
    · obtain ⟨x, hx⟩ : ∃ x, l[k]? = some x := ⟨_, List.getElem?_eq_getElem (show k < l.length by have := HN.out; omega)⟩
      obtain ⟨ad, rfl, _, hc⟩ := HR.out wr hW k _ (map_getR hx)
      have i1 : (0 : Int) ≤ (k : Int) := by omega
      have i2 : (k : Int) < (n : Int) := by omega
      have HL : Hid ((l.take (k + 1)).map Ln.cells = (l.take k).map Ln.cells ++ [x.cells]) := by
        show _ = _
        rw [List.take_add_one, hx, List.map_append]
        rfl
      clear hx
      have q0 : wr.cell? (ad.add (k * 11)) = some (.int .i64 x.pl) := (celX hc).1 _ rfl
      have q1 : wr.cell? ⟨(ad.add (k * 11)).block, (ad.add (k * 11)).off + 1, none⟩ = some (.int .i64 x.w.dev) := (celX hc).2 0 _ rfl
      have q2 : wr.cell? ⟨(ad.add (k * 11)).block, (ad.add (k * 11)).off + 2, none⟩ = some (.int .i64 x.w.seq) := (celX hc).2 1 _ rfl
      have q3 : wr.cell? ⟨(ad.add (k * 11)).block, (ad.add (k * 11)).off + 3, none⟩ = some (.int .i64 x.w.K) := (celX hc).2 2 _ rfl
      have q4 : wr.cell? ⟨(ad.add (k * 11)).block, (ad.add (k * 11)).off + 4, none⟩ = some (.string x.w.ky) := (celX hc).2 3 _ rfl
      have q5 : wr.cell? ⟨(ad.add (k * 11)).block, (ad.add (k * 11)).off + 5, none⟩ = some (.int .i64 x.w.ka) := (celX hc).2 4 _ rfl
      have q6 : wr.cell? ⟨(ad.add (k * 11)).block, (ad.add (k * 11)).off + 6, none⟩ = some (.int .i64 x.w.na) := (celX hc).2 5 _ rfl
      have q7 : wr.cell? ⟨(ad.add (k * 11)).block, (ad.add (k * 11)).off + 7, none⟩ = some (.string x.w.sa) := (celX hc).2 6 _ rfl
      have q8 : wr.cell? ⟨(ad.add (k * 11)).block, (ad.add (k * 11)).off + 8, none⟩ = some (.int .i64 x.w.kb) := (celX hc).2 7 _ rfl
      have q9 : wr.cell? ⟨(ad.add (k * 11)).block, (ad.add (k * 11)).off + 9, none⟩ = some (.int .i64 x.w.nb) := (celX hc).2 8 _ rfl
      have q10 : wr.cell? ⟨(ad.add (k * 11)).block, (ad.add (k * 11)).off + 10, none⟩ = some (.string x.w.sb) := (celX hc).2 9 _ rfl
      clear hc
      go_upto_region 5 with fail
      have hX := blk_new wr x.cells 62
      have hW1 := ba hW (.cells x.cells 62)
      have hO1 := hO.keep (b0 wr (.cells x.cells 62))
      clear q0 q1 q2 q3 q4 q5 q6 q7 q8 q9 q10 hO hW
      generalize wr.alloc (.cells x.cells 62) = W1 at hX hW1 hO1 ⊢
      generalize wr.heap.size = bx at hX ⊢
      have c0 := hX.cell 0
      have c1 := hX.cell 1
      have c2 := hX.cell 2
      have c3 := hX.cell 3
      have c4 := hX.cell 4
      have c5 := hX.cell 5
      have c6 := hX.cell 6
      have c7 := hX.cell 7
      have c8 := hX.cell 8
      have c9 := hX.cell 9
      have c10 := hX.cell 10
      have hxx := newX W1 x.cells 65
      have hO2 := hO1.keep (b0 W1 (.cells x.cells 65))
      have hW2 := ba hW1 (.cells x.cells 65)
      have hz := hW2.size
      have hkb : k ≤ 1000000000 := by omega
      clear hO1 hW1
      go_wp2_with (at_builtin; refine wpList_apX (el := 65) (base := w.heap.size) (n := k) (l := (l.take k).map Ln.cells) (xx := x.cells) (by rfl) _ _ (by rfl) Try.underlying32 Try.underlying32 hi0 hz0 hz1 hz2 (by rfl) (by omega) (by omega) (by rfl) (by rfl) hO2 (by rfl) (ln_one x) hxx hkb hz ?_; intro A5 c5 w5 hO5 hb5)
      rw [← HL.out] at hO5
      go_roundw
      case rel => exact ⟨k + 1, A5, c5, by omega, by go_num, rfl, hO5, hW2.trans hb5⟩
      case measure => simp [intOf]; omega
    · have hq : ¬ (k : Int) < (n : Int) := by omega
      have hkn : k = n := by omega
      subst hkn
      have e : (l.take k).map Ln.cells = l.map Ln.cells := by rw [List.take_of_length_le (by have := HN.out; omega)]
      rw [e] at hO
      clear e
      go_wp2_with fail
      go_ret
      exact ⟨⟨A3, c3, rfl, hO⟩, hW⟩
end Go.Proofs.Ytnlnbgcmmlpniaa

namespace Go.Proofs.Ytnlnbgcmmlpniaa
open Go.RowKit

section
variable {W w0 w' w1 : World} {b : Nat} {v0 v1 v2 v3 v4 v5 v6 v7 v8 v9 v10 v11 : Value} {t : TypeId}
theorem Blk.range {W : World} {b : Nat} {cs : List Value} {t : TypeId} (h : Blk W b cs.toArray t) : W.rangeAt b 0 cs := fun j v hv => by
  rw [Nat.zero_add, h.cell j]; simpa using hv
theorem sb12_0 (h : Blk W b #[v0, v1, v2, v3, v4, v5, v6, v7, v8, v9, v10, v11] t) (hB : Below b w0 W) : W.drew.rangeAt b 0 [v0, v1, v2, v3, v4, v5, v6, v7, v8, v9, v10, v11] ∧ Blk W.drew b #[v0, v1, v2, v3, v4, v5, v6, v7, v8, v9, v10, v11] t ∧ Below b w0 W.drew :=
  ⟨(show Blk W.drew b ([v0, v1, v2, v3, v4, v5, v6, v7, v8, v9, v10, v11] : List Value).toArray t from h).range, h, hB.drew⟩
theorem sb12_1 (h : w'.rangeAt b 0 [v0, v1, v2, v3, v4, v5, v6, v7, v8, v9, v10, v11] ∧ Blk w' b #[v0, v1, v2, v3, v4, v5, v6, v7, v8, v9, v10, v11] t ∧ Below b w0 w') (hb : Below w'.heap.size w' w1) : w1.rangeAt b 0 [v0, v1, v2, v3, v4, v5, v6, v7, v8, v9, v10, v11] ∧ Blk w1 b #[v0, v1, v2, v3, v4, v5, v6, v7, v8, v9, v10, v11] t ∧ Below b w0 w1 := by
  have k := Blk.keep h.2.1 hb
  exact ⟨(show Blk w1 b ([v0, v1, v2, v3, v4, v5, v6, v7, v8, v9, v10, v11] : List Value).toArray t from k).range, k, h.2.2.trans (hb.mono (Nat.le_of_lt (Blk.lt h.2.1)))⟩
theorem sb12_b (h : w'.rangeAt b 0 [v0, v1, v2, v3, v4, v5, v6, v7, v8, v9, v10, v11] ∧ Blk w' b #[v0, v1, v2, v3, v4, v5, v6, v7, v8, v9, v10, v11] t ∧ Below b w0 w') : Below b w0 w' := h.2.2
theorem sb12_k (h : w'.rangeAt b 0 [v0, v1, v2, v3, v4, v5, v6, v7, v8, v9, v10, v11] ∧ Blk w' b #[v0, v1, v2, v3, v4, v5, v6, v7, v8, v9, v10, v11] t ∧ Below b w0 w') : Blk w' b #[v0, v1, v2, v3, v4, v5, v6, v7, v8, v9, v10, v11] t := h.2.1
end
end Go.Proofs.Ytnlnbgcmmlpniaa
