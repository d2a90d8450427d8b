/-
  WHAT IS PROVED: the document's taking of writes from bytes (spinneyref05.TakeWrite). Conditions: those typed in the theorem. · words for slices of writes that the call owns (own work); append of one write onto such a row. Over any program that bears the types named. · the document's taking of lists of writes from bytes (spinneyref05.TakeWrites). Conditions: those typed in the theorem. · whether two lists of writes are the same (spinneyref03.Same), for all slices of writes. Conditions: those typed in the theorem. · nothing but plain facts: as definitions, what the walks of layer 5's statements take of package pack's calls on values and writes. The definitions are proved elsewhere, of the code itself. · plain facts: the steps by which package pack's reader takes a value come to what the chapter says is taken. No program is spoken of. · plain facts on things that are taken from bytes one behind the other, as many as a number ahead of them tells: step by step as a reader takes them, and as the document does; what is put is taken again. No program is spoken of.
-/
import Derived.Test.YtfpfalgbkbmkeaaGreatDoorM3
import Derived.Deep.Cut
import Derived.Test.YtfpfalgbkbmkeaaGreatDoorM0
import Derived.Test.YtfpfalgbkbmkeaaGreatDoorM1
import Derived.Test.YtfpfalgbkbmkeaaGreatDoorM2
namespace Go.Proofs.YtfpfalgbkbmkeaaGreatDoor
open Go.RowKit
attribute [local go_sem ↓] Go.wp_at_zero Go.wp_at_succ

/-- Where the three numbers stand. -/
def posW (l : List UInt8) : Nat → Nat
  | 0 => 0
  | j + 1 => posW l j + (takeNum (l.drop (posW l j)) 1000).2
/-- The number that stands at the j-th place; how many bytes. -/
def numW (l : List UInt8) (j : Nat) : Nat × Nat := takeNum (l.drop (posW l j)) 1000
theorem posW_succ (l : List UInt8) (j : Nat) : posW l (j + 1) = posW l j + (numW l j).2 := rfl
/-- What the array holds ahead of round j. -/
def cellW (l : List UInt8) (j i : Nat) : Value := if i < j then .int .i64 ((numW l i).1 : Nat) else .int .i64 0
abbrev rowW (l : List UInt8) (j : Nat) : Array Value := #[cellW l j 0, cellW l j 1, cellW l j 2]
abbrev zeroW : Array Value := wrI 0 0 0 ⟨#[]⟩ 0 0 ⟨#[]⟩ 0 0 ⟨#[]⟩
theorem numW_lt (l : List UInt8) (j : Nat) : (numW l j).1 ≤ 1000 ∧ (numW l j).2 ≤ 9 := ⟨(takeNum_lt _ 1000).2.1, (takeNum_lt _ 1000).2.2.1⟩
theorem posW_le (l : List UInt8) : ∀ j, posW l j ≤ l.length
  | 0 => Nat.zero_le _
  | j + 1 => by
    have h := posW_le l j
    have k := (takeNum_lt (l.drop (posW l j)) 1000).2.2.2
    rw [List.length_drop] at k
    show posW l j + (takeNum (l.drop (posW l j)) 1000).2 ≤ _
    omega

theorem blk_f10 {W : World} {b : Nat} {v0 v1 v2 v3 v4 v5 v6 v7 v8 v9 : Value} {t : TypeId} (h : Blk W b #[v0, v1, v2, v3, v4, v5, v6, v7, v8, v9] t) :
    W.frozen? ⟨b, 0, none⟩ = false ∧ W.frozen? ⟨b, 1, none⟩ = false ∧ W.frozen? ⟨b, 2, none⟩ = false ∧ W.frozen? ⟨b, 3, none⟩ = false ∧ W.frozen? ⟨b, 4, none⟩ = false ∧ W.frozen? ⟨b, 5, none⟩ = false ∧ W.frozen? ⟨b, 6, none⟩ = false ∧ W.frozen? ⟨b, 7, none⟩ = false ∧ W.frozen? ⟨b, 8, none⟩ = false ∧ W.frozen? ⟨b, 9, none⟩ = false :=
  ⟨h.free 0, h.free 1, h.free 2, h.free 3, h.free 4, h.free 5, h.free 6, h.free 7, h.free 8, h.free 9⟩
theorem below10 {B b : Nat} {w W : World} (h : Below B w W) (hb : B ≤ b) (v0 v1 v2 v3 v4 v5 v6 v7 v8 v9 : Value) : Below B w ((((((((((W.setCell ⟨b, 0, none⟩ v0).setCell ⟨b, 1, none⟩ v1).setCell ⟨b, 2, none⟩ v2).setCell ⟨b, 3, none⟩ v3).setCell ⟨b, 4, none⟩ v4).setCell ⟨b, 5, none⟩ v5).setCell ⟨b, 6, none⟩ v6).setCell ⟨b, 7, none⟩ v7).setCell ⟨b, 8, none⟩ v8).setCell ⟨b, 9, none⟩ v9) := ((((((((((h.setCell (p := ⟨b, 0, none⟩) hb v0).setCell (p := ⟨b, 1, none⟩) hb v1).setCell (p := ⟨b, 2, none⟩) hb v2).setCell (p := ⟨b, 3, none⟩) hb v3).setCell (p := ⟨b, 4, none⟩) hb v4).setCell (p := ⟨b, 5, none⟩) hb v5).setCell (p := ⟨b, 6, none⟩) hb v6).setCell (p := ⟨b, 7, none⟩) hb v7).setCell (p := ⟨b, 8, none⟩) hb v8).setCell (p := ⟨b, 9, none⟩) hb v9)
theorem rowW_set (l : List UInt8) {j v k : Nat} (hj : j < 3) (h : numW l j = (v, k)) : (rowW l j).setIfInBounds j (.int .i64 (v : Int)) = rowW l (j + 1) := by
  have e : j = 0 ∨ j = 1 ∨ j = 2 := by omega
  rcases e with rfl | rfl | rfl <;> simp [rowW, cellW, h]
theorem takeVal_le (l : List UInt8) : (takeValB l).2 ≤ l.length := by
  unfold takeValB takeValC
  have h := (takeNum_lt l 2).2.2.2
  have h1 := takeInt_le (l.drop (takeNum l 2).2)
  have h2 := takeText_le (l.drop (takeNum l 2).2) 40
  rw [List.length_drop] at h1 h2
  repeat' split
  all_goals simp only
  all_goals omega
/-- The text, the two values behind the numbers. -/
def textW (l : List UInt8) : List UInt8 × Nat := takeTextB (l.drop (posW l 3)) 20
def val1W (l : List UInt8) : (Int × Int × List UInt8) × Nat := takeValB (l.drop (posW l 3 + (textW l).2))
def val2W (l : List UInt8) : (Int × Int × List UInt8) × Nat := takeValB (l.drop (posW l 3 + (textW l).2 + (val1W l).2))
/-- What stands there, good or not. -/
def gotW (l : List UInt8) : Wr := ⟨((numW l 0).1 : Nat), ((numW l 1).1 : Nat), ((numW l 2).1 : Nat), ⟨(textW l).1.toArray⟩, (val1W l).1.1, (val1W l).1.2.1, ⟨(val1W l).1.2.2.toArray⟩, (val2W l).1.1, (val2W l).1.2.1, ⟨(val2W l).1.2.2.toArray⟩⟩
def stdW (l : List UInt8) : Prop := (∀ m, m < 3 → (numW l m).2 ≠ 0) ∧ (textW l).2 ≠ 0 ∧ (val1W l).2 ≠ 0 ∧ (val2W l).2 ≠ 0 ∧ (gotW l).good = true
open Classical in
/-- A write, taken; how many bytes; 0: no good one stands there. -/
noncomputable def takeWrB (l : List UInt8) : Wr × Nat :=
  if stdW l then (gotW l, posW l 3 + (textW l).2 + (val1W l).2 + (val2W l).2) else (⟨0, 0, 0, ⟨#[]⟩, 0, 0, ⟨#[]⟩, 0, 0, ⟨#[]⟩⟩, 0)
theorem takeWr_no {l : List UInt8} (h : ¬ stdW l) : takeWrB l = (⟨0, 0, 0, ⟨#[]⟩, 0, 0, ⟨#[]⟩, 0, 0, ⟨#[]⟩⟩, 0) := if_neg h
theorem takeWr_yes {l : List UInt8} (h : stdW l) : takeWrB l = (gotW l, posW l 3 + (textW l).2 + (val1W l).2 + (val2W l).2) := if_pos h
/-- What TakeWrite answers. -/
def TakeWP (r : Wr × Nat) (w : World) (e : Ending) (w' : World) : Prop := e = .returned (.tuple #[.agg r.1.cells, .int .i64 (r.2 : Nat)]) ∧ Below w.heap.size w w'

theorem takeText_sz (l : List UInt8) (most : Nat) : (takeTextB l most).1.length ≤ l.length := by
  unfold takeTextB
  split
  · simp
  · simp only [List.length_take, List.length_drop]
    omega
theorem takeVal_sz (l : List UInt8) : (takeValB l).1.2.2.length ≤ l.length := by
  unfold takeValB takeValC
  have h2 := takeText_sz (l.drop (takeNum l 2).2) 40
  rw [List.length_drop] at h2
  repeat' split
  all_goals simp only [List.length_nil]
  all_goals omega
theorem ba_of {s : ByteArray} {l : List UInt8} (h : s.data.toList = l) : s = ⟨l.toArray⟩ := by
  subst h
  cases s
  simp
set_option maxRecDepth 100000 in
set_option maxHeartbeats 4000000 in
theorem refTakeWrite_any {B : Nat} (A : Option Addr) (n c : Nat) (l : List UInt8) (w : World) (hn : l.length = n) (hr : RdB B w A l) (hB : B ≤ w.heap.size) (hm : n ≤ 1000000) (hc : n ≤ c) :
    Calls Tryz.prog 95 #[.slice A n c] w fun e w' => TakeWP (takeWrB l) w e w' := by
  have HN := Lib.hid hn
  have b3 : (n : Int) ≤ 1000000 := by omega
  have b4 : (n : Int) ≤ (c : Int) := by omega
  go_enter Tryz.func95, Tryz.ntmps95
  go_wp2_with fail
  have hK := blk_new w zeroW 55
  have hB0 := b0 w (.cells zeroW 55)
  have hz0 : (w.alloc (.cells zeroW 55)).heap.size = w.heap.size + 1 := by simp
  generalize w.alloc (.cells zeroW 55) = W at hK hB0 hz0 ⊢
  rw [← hz0]
  have hL := blk_new W (rowW l 0) 243
  have hB1 := ba hB0 (.cells (rowW l 0) 243)
  have hK1 := hK.alloc (.cells (rowW l 0) 243)
  rw [show (#[Value.int IntKind.i64 0, Value.int IntKind.i64 0, Value.int IntKind.i64 0] : Array Value) = rowW l 0 from rfl]
  generalize W.alloc (.cells (rowW l 0) 243) = W1 at hL hB1 hK1 ⊢
  rw [hz0] at hL ⊢
  clear hK hB0 hz0
  generalize hb : w.heap.size = b at hL hK1 ⊢
  go_loopw [5, 16] (fun t i wr => ∃ j : Nat, j ≤ 3 ∧ i = .int .i64 j ∧ t = .int .i64 (posW l j : Nat) ∧ Hid (∀ m, m < j → (numW l m).2 ≠ 0) ∧ Blk wr b zeroW 55 ∧ Blk wr (b + 1) (rowW l j) 243 ∧ Below w.heap.size w wr) (fun _ i _ => 3 - (intOf i).toNat)
  case atStart => exact ⟨0, by omega, rfl, rfl, fun m hm => by omega, hK1, hL, hB1⟩
  case round =>
    clear hL hK1 hB1
    obtain ⟨j, hj, rfl, rfl, hA, hK, hL, hW⟩ := hrel
    by_cases hlt : j < 3
    · have i1 : (0 : Int) ≤ (j : Int) := by omega
      have i2 : (j : Int) < 3 := by omega
      have hp := posW_le l j
      have hv := numW_lt l j
      have hp2 := posW_succ l j
      have HC : Hid (∀ W A' c', RdB B W A' (l.drop (posW l j)) → Calls Tryz.prog 43 #[.slice A' (n - posW l j) c', .int .u64 (1000 : Nat)] W fun e w' => e = .returned (.tuple #[.int .u64 ((numW l j).1 : Nat), .int .i64 ((numW l j).2 : Nat)]) ∧ Drn W w') :=
        fun W A' c' h => refTakeNumber_any A' _ c' _ 1000 W (by rw [List.length_drop, HN.out]) h (by omega) (by omega)
      have hr0 := hr.keep hW hB
      have hrd := hr0.cut (p := posW l j) (c := c) (by omega)
      have hs := fun W => run_cut W A n c (posW l j) (by omega)
      clear hr0
      generalize posW l j = p at hp hp2 hrd hs HC ⊢
      have p0 : (0 : Int) ≤ (p : Int) := by omega
      have p1 : (p : Int) ≤ (n : Int) := by omega
      have p2 : (p : Int) ≤ (c : Int) := by omega
      go_wp2_with fail
      refine (HC.out _ _ _ hrd).mono ?_
      rintro e w1 ⟨rfl, hD⟩
      have hW1 := hW.trans (hD.below _)
      have hK1 := hK.keep (hD.below _)
      have hL1 := hL.keep (hD.below _)
      clear hK hL hW hD hrd hs HC
      have HV : Hid (numW l j = numW l j) := rfl
      generalize hq : numW l j = r at hv hp2 HV ⊢
      obtain ⟨v, k⟩ := r
      have HQ := Lib.hid hq
      clear hq HV
      by_cases h0 : k = 0
      · have e0 : ((k : Int) == 0) = true := by rw [beq_iff_eq]; omega
        have R : Hid (takeWrB l = (⟨0, 0, 0, ⟨#[]⟩, 0, 0, ⟨#[]⟩, 0, 0, ⟨#[]⟩⟩, 0)) := takeWr_no fun h => by
          have := h.1 j hlt
          rw [HQ.out] at this
          exact this h0
        have hbw : w.heap.size ≤ b := Nat.le_of_eq hb
        obtain ⟨c0, c1, c2, c3, c4, c5, c6, c7, c8, c9, c10⟩ := blk_c10 hK1
        obtain ⟨f0, f1, f2, f3, f4, f5, f6, f7, f8, f9⟩ := blk_f10 hK1
        clear h0 hb hK1 hL1 hp2
        go_wp2_with fail
        exact bodyPost_ret (v := .tuple #[.agg zeroW, .int .i64 0]) (by simp [results, Tryz.results95, go_sem, c0, c1, c2, c3, c4, c5, c6, c7, c8, c9]) rfl (by rw [R.out]; exact ⟨rfl, below10 hW1 hbw _ _ _ _ _ _ _ _ _ _⟩)
      · have e0 : ((k : Int) == 0) = false := by rw [beq_eq_false_iff_ne]; omega
        have hc1 := hL1.cell j
        have hf1 := hL1.free j
        have HA2 : Hid (∀ m, m < j + 1 → (numW l m).2 ≠ 0) := fun m hm => by
          by_cases e : m = j
          · rw [e, HQ.out]; exact h0
          · exact hA.out m (by omega)
        have hbw : w.heap.size ≤ b := Nat.le_of_eq hb
        go_wp2_with fail
        go_roundw
        case rel => exact ⟨j + 1, by omega, by go_num, by rw [hp2]; go_num, HA2, hK1.other (by omega) _ _, by rw [← rowW_set l hlt HQ.out]; exact hL1.set j _, hW1.setCell (p := ⟨b + 1, j, none⟩) (by show _ ≤ b + 1; omega) _⟩
        case measure => simp [intOf]; omega
    · have hj3 : j = 3 := by omega
      subst hj3
      have hq : ¬ (3 : Int) < 3 := by omega
      have hp := posW_le l 3
      have HT : Hid (∀ W A' c', RdB B W A' (l.drop (posW l 3)) → n - posW l 3 ≤ c' → Calls Tryz.prog 94 #[.slice A' (n - posW l 3) c', .int .u64 (20 : Nat)] W fun e w' => (∃ s : ByteArray, e = .returned (.tuple #[.string s, .int .i64 ((textW l).2 : Nat)]) ∧ s.data.toList = (textW l).1) ∧ Drn W w') :=
        fun W A' c' h h2 => refTakeText_any A' _ c' _ 20 W (by rw [List.length_drop, HN.out]) h (by omega) h2 (by omega)
      have hr0 := hr.keep hW hB
      have hrd := hr0.cut (p := posW l 3) (c := c) (by omega)
      have hs := fun W => run_cut W A n c (posW l 3) (by omega)
      generalize hp3 : posW l 3 = p at hp hrd hs HT ⊢
      have p0 : (0 : Int) ≤ (p : Int) := by omega
      have p1 : (p : Int) ≤ (n : Int) := by omega
      have p2 : (p : Int) ≤ (c : Int) := by omega
      clear hr0
      have hk := takeText_le (l.drop p) 20
      have HTW : Hid (textW l = takeTextB (l.drop p) 20) := by show _ = _; unfold textW; rw [hp3]
      rw [← HTW.out, List.length_drop, HN.out] at hk
      go_wp2_with fail
      refine (HT.out _ _ _ hrd (by omega)).mono ?_
      rintro e w1 ⟨⟨s1, rfl, hs1⟩, hD⟩
      have hW1 := hW.trans (hD.below _)
      have hK1 := hK.keep (hD.below _)
      have hL1 := hL.keep (hD.below _)
      clear hK hL hW hD hrd hs HT
      have HV1 : Hid (∀ W A' c', RdB B W A' (l.drop (p + (textW l).2)) → B ≤ W.heap.size → n - (p + (textW l).2) ≤ c' → Calls Tryz.prog 96 #[.slice A' (n - (p + (textW l).2)) c'] W fun e w' => TakeVP (val1W l) W e w') :=
        fun W A' c' h h2 h3 => by
          have := refTakeValue_any A' _ c' _ W (by rw [List.length_drop, HN.out]) h h2 (by omega) h3
          unfold val1W
          rw [hp3]
          exact this
      have hm := takeVal_le (l.drop (p + (textW l).2))
      have HVW : Hid (val1W l = takeValB (l.drop (p + (textW l).2))) := by show _ = _; unfold val1W; rw [hp3]
      rw [← HVW.out, List.length_drop, HN.out] at hm
      generalize hq1 : textW l = r1 at hs1 hk HV1 hm ⊢
      obtain ⟨tl, k⟩ := r1
      simp only at hk hm hs1 HV1
      have HQ1 := Lib.hid hq1
      clear hq1 HTW HVW
      have k0 : (0 : Int) ≤ (k : Int) := by omega
      have k1 : (p : Int) + (k : Int) ≤ (n : Int) := by omega
      have hs2 := fun W => run_cutI W A n c (p + k) ((p : Int) + (k : Int)) (by omega) (by omega)
      have hr1 := (hr.keep hW1 hB).cut (p := p + k) (c := c) (by omega)
      go_wp2_with fail
      refine (HV1.out _ _ _ hr1 (Nat.le_trans hB hW1.size) (by omega)).mono ?_
      rintro e w2 ⟨⟨s2, rfl, hs2d⟩, hb2⟩
      have hW2 := bt hW1 hb2
      have hK2 := hK1.keep hb2
      have hL2 := hL1.keep hb2
      clear hK1 hL1 hW1 hb2 hr1 hs2 HV1
      have HV2 : Hid (∀ W A' c', RdB B W A' (l.drop (p + k + (val1W l).2)) → B ≤ W.heap.size → n - (p + k + (val1W l).2) ≤ c' → Calls Tryz.prog 96 #[.slice A' (n - (p + k + (val1W l).2)) c'] W fun e w' => TakeVP (val2W l) W e w') :=
        fun W A' c' h h2 h3 => by
          have := refTakeValue_any A' _ c' _ W (by rw [List.length_drop, HN.out]) h h2 (by omega) h3
          unfold val2W
          rw [hp3, HQ1.out]
          exact this
      have ho := takeVal_le (l.drop (p + k + (val1W l).2))
      have HVW2 : Hid (val2W l = takeValB (l.drop (p + k + (val1W l).2))) := by show _ = _; unfold val2W; rw [hp3, HQ1.out]
      rw [← HVW2.out, List.length_drop, HN.out] at ho
      generalize hq2 : val1W l = r2 at hs2d hm HV2 ho ⊢
      obtain ⟨⟨ka, na, sl⟩, m⟩ := r2
      simp only at hm hs2d HV2 ho
      have HQ2 := Lib.hid hq2
      clear hq2 HVW2
      have m0 : (0 : Int) ≤ (m : Int) := by omega
      have m1 : (p : Int) + (k : Int) + (m : Int) ≤ (n : Int) := by omega
      have hs3 := fun W => run_cutI W A n c (p + k + m) ((p : Int) + (k : Int) + (m : Int)) (by omega) (by omega)
      go_wp2_with fail
      have hX := blk_new w2 #[.int .i64 ka, .int .i64 na, .string s2] 51
      have hWX := ba hW2 (.cells #[.int .i64 ka, .int .i64 na, .string s2] 51)
      have hKX := hK2.alloc (.cells #[.int .i64 ka, .int .i64 na, .string s2] 51)
      have hLX := hL2.alloc (.cells #[.int .i64 ka, .int .i64 na, .string s2] 51)
      generalize w2.alloc (.cells #[.int .i64 ka, .int .i64 na, .string s2] 51) = WX at hX hWX hKX hLX ⊢
      clear hW2 hK2 hL2
      generalize w2.heap.size = bx at hX ⊢
      have hr2 := (hr.keep hWX hB).cut (p := p + k + m) (c := c) (by omega)
      refine (HV2.out _ _ _ hr2 (Nat.le_trans hB hWX.size) (by omega)).mono ?_
      rintro e w3 ⟨⟨s3, rfl, hs3d⟩, hb3⟩
      have hW3 := bt hWX hb3
      have hK3 := hKX.keep hb3
      have hL3 := hLX.keep hb3
      have hX3 := hX.keep hb3
      clear hKX hLX hWX hX hb3 hr2 hs3 HV2
      generalize hq3 : val2W l = r3 at hs3d ho ⊢
      obtain ⟨⟨kb, nb, sl2⟩, o⟩ := r3
      simp only at ho hs3d
      have HQ3 := Lib.hid hq3
      clear hq3
      obtain ⟨e0, e1, e2, e3⟩ := hL3.c3
      rw [show cellW l 3 0 = .int .i64 ((numW l 0).1 : Nat) from rfl] at e0
      rw [show cellW l 3 1 = .int .i64 ((numW l 1).1 : Nat) from rfl] at e1
      rw [show cellW l 3 2 = .int .i64 ((numW l 2).1 : Nat) from rfl] at e2
      obtain ⟨x0, x1, x2, x3⟩ := hX3.c3
      have hbw : w.heap.size ≤ b := Nat.le_of_eq hb
      have z1 : s1.size ≤ maxLen := by
        have h := takeText_sz (l.drop (posW l 3)) 20
        have h2 := HQ1.out
        unfold textW at h2
        rw [h2] at h
        simp only [List.length_drop] at h
        rw [← hs1] at h
        have h3 : s1.data.toList.length = s1.size := Array.length_toList
        have := HN.out
        unfold maxLen
        omega
      have z2 : s2.size ≤ maxLen := by
        have h := takeVal_sz (l.drop (posW l 3 + (textW l).2))
        have h2 := HQ2.out
        unfold val1W at h2
        rw [h2] at h
        simp only [List.length_drop] at h
        rw [← hs2d] at h
        have h3 : s2.data.toList.length = s2.size := Array.length_toList
        have := HN.out
        unfold maxLen
        omega
      have z3 : s3.size ≤ maxLen := by
        have h := takeVal_sz (l.drop (posW l 3 + (textW l).2 + (val1W l).2))
        have h2 := HQ3.out
        unfold val2W at h2
        rw [h2] at h
        simp only [List.length_drop] at h
        rw [← hs3d] at h
        have h3 : s3.data.toList.length = s3.size := Array.length_toList
        have := HN.out
        unfold maxLen
        omega
      have hG : gotW l = ⟨((numW l 0).1 : Nat), ((numW l 1).1 : Nat), ((numW l 2).1 : Nat), s1, ka, na, s2, kb, nb, s3⟩ := by
        unfold gotW
        rw [HQ1.out, HQ2.out, HQ3.out, ba_of hs1, ba_of hs2d, ba_of hs3d]
      have HG := Lib.hid hG
      have m2 : (p : Int) + (k : Int) + (m : Int) + (o : Int) ≤ (n : Int) := by omega
      have o0 : (0 : Int) ≤ (o : Int) := by omega
      clear hlt hj hq p2 hm hk ho m0 k0 p0 p1 k1 hG hs1 hs2d hs3d
      go_upto_region 18 with fail
      have hWY := ba hW3 (.cells #[.int .i64 kb, .int .i64 nb, .string s3] 51)
      have hKY := hK3.alloc (.cells #[.int .i64 kb, .int .i64 nb, .string s3] 51)
      have hz : (w3.alloc (.cells #[.int .i64 kb, .int .i64 nb, .string s3] 51)).heap.size = w3.heap.size + 1 := by simp
      clear hL3 hX3 e0 e1 e2 e3 x0 x1 x2 x3 hK3 hW3
      generalize w3.alloc (.cells #[.int .i64 kb, .int .i64 nb, .string s3] 51) = WY at hWY hKY hz ⊢
      rw [← hz]
      clear hz
      have hZ := blk_new WY (wrI ((numW l 0).1 : Nat) ((numW l 1).1 : Nat) ((numW l 2).1 : Nat) s1 ka na s2 kb nb s3) 55
      have hWZ := ba hWY (.cells (wrI ((numW l 0).1 : Nat) ((numW l 1).1 : Nat) ((numW l 2).1 : Nat) s1 ka na s2 kb nb s3) 55)
      have hKZ := hKY.alloc (.cells (wrI ((numW l 0).1 : Nat) ((numW l 1).1 : Nat) ((numW l 2).1 : Nat) s1 ka na s2 kb nb s3) 55)
      have hne : b ≠ WY.heap.size := fun e => by
        have := hKY.lt
        omega
      clear hWY hKY
      generalize WY.alloc (.cells (wrI ((numW l 0).1 : Nat) ((numW l 1).1 : Nat) ((numW l 2).1 : Nat) s1 ka na s2 kb nb s3) 55) = WZ at hZ hWZ hKZ ⊢
      generalize WY.heap.size = bz at hZ hne ⊢
      by_cases hk0 : k = 0
      · have e : ((k : Int) == 0) = true := by rw [beq_iff_eq]; omega
        have R : Hid (takeWrB l = (⟨0, 0, 0, ⟨#[]⟩, 0, 0, ⟨#[]⟩, 0, 0, ⟨#[]⟩⟩, 0)) := takeWr_no fun h => h.2.1 (by rw [HQ1.out]; exact hk0)
        obtain ⟨c0, c1, c2, c3, c4, c5, c6, c7, c8, c9, c10⟩ := blk_c10 hKZ
        obtain ⟨f0, f1, f2, f3, f4, f5, f6, f7, f8, f9⟩ := blk_f10 hKZ
        clear hb hKZ hZ
        go_wp2_with fail
        exact bodyPost_ret (v := .tuple #[.agg zeroW, .int .i64 0]) (by simp [results, Tryz.results95, go_sem, c0, c1, c2, c3, c4, c5, c6, c7, c8, c9]) rfl (by rw [R.out]; exact ⟨rfl, below10 hWZ hbw _ _ _ _ _ _ _ _ _ _⟩)
      · by_cases hm0 : m = 0
        · have e : ((m : Int) == 0) = true := by rw [beq_iff_eq]; omega
          have q1 : ((k : Int) == 0) = false := by rw [beq_eq_false_iff_ne]; omega
          have R : Hid (takeWrB l = (⟨0, 0, 0, ⟨#[]⟩, 0, 0, ⟨#[]⟩, 0, 0, ⟨#[]⟩⟩, 0)) := takeWr_no fun h => h.2.2.1 (by rw [HQ2.out]; exact hm0)
          obtain ⟨c0, c1, c2, c3, c4, c5, c6, c7, c8, c9, c10⟩ := blk_c10 hKZ
          obtain ⟨f0, f1, f2, f3, f4, f5, f6, f7, f8, f9⟩ := blk_f10 hKZ
          clear hb hKZ hZ
          go_wp2_with fail
          exact bodyPost_ret (v := .tuple #[.agg zeroW, .int .i64 0]) (by simp [results, Tryz.results95, go_sem, c0, c1, c2, c3, c4, c5, c6, c7, c8, c9]) rfl (by rw [R.out]; exact ⟨rfl, below10 hWZ hbw _ _ _ _ _ _ _ _ _ _⟩)
        · by_cases ho0 : o = 0
          · have e : ((o : Int) == 0) = true := by rw [beq_iff_eq]; omega
            have q1 : ((k : Int) == 0) = false := by rw [beq_eq_false_iff_ne]; omega
            have q2 : ((m : Int) == 0) = false := by rw [beq_eq_false_iff_ne]; omega
            have R : Hid (takeWrB l = (⟨0, 0, 0, ⟨#[]⟩, 0, 0, ⟨#[]⟩, 0, 0, ⟨#[]⟩⟩, 0)) := takeWr_no fun h => h.2.2.2.1 (by rw [HQ3.out]; exact ho0)
            obtain ⟨c0, c1, c2, c3, c4, c5, c6, c7, c8, c9, c10⟩ := blk_c10 hKZ
            obtain ⟨f0, f1, f2, f3, f4, f5, f6, f7, f8, f9⟩ := blk_f10 hKZ
            clear hb hKZ hZ
            go_wp2_with fail
            exact bodyPost_ret (v := .tuple #[.agg zeroW, .int .i64 0]) (by simp [results, Tryz.results95, go_sem, c0, c1, c2, c3, c4, c5, c6, c7, c8, c9]) rfl (by rw [R.out]; exact ⟨rfl, below10 hWZ hbw _ _ _ _ _ _ _ _ _ _⟩)
          · have q1 : ((k : Int) == 0) = false := by rw [beq_eq_false_iff_ne]; omega
            have q2 : ((m : Int) == 0) = false := by rw [beq_eq_false_iff_ne]; omega
            have q3 : ((o : Int) == 0) = false := by rw [beq_eq_false_iff_ne]; omega
            obtain ⟨d0, d1, d2, d3, d4, d5, d6, d7, d8, d9, d10⟩ := blk_c10 hZ
            go_wp2_with fail
            clear d0 d1 d2 d3 d4 d5 d6 d7 d8 d9 d10
            refine (refWrGood_any _ _ _ _ _ _ _ _ _ _ _ z1 z2 z3).mono ?_
            rintro e w4 ⟨rfl, hb4⟩
            replace hWZ := bt hWZ hb4
            replace hKZ := hKZ.keep hb4
            replace hZ := hZ.keep hb4
            clear hb4
            obtain ⟨c0, c1, c2, c3, c4, c5, c6, c7, c8, c9, c10⟩ := blk_c10 hKZ
            obtain ⟨f0, f1, f2, f3, f4, f5, f6, f7, f8, f9⟩ := blk_f10 hKZ
            obtain ⟨d0, d1, d2, d3, d4, d5, d6, d7, d8, d9, d10⟩ := blk_c10 hZ
            clear hKZ hZ
            cases hg : wrGoodB ((numW l 0).1 : Nat) ((numW l 1).1 : Nat) ((numW l 2).1 : Nat) s1 ka na s2 kb nb s3
            · have R : Hid (takeWrB l = (⟨0, 0, 0, ⟨#[]⟩, 0, 0, ⟨#[]⟩, 0, 0, ⟨#[]⟩⟩, 0)) := takeWr_no fun h => by
                have h := h.2.2.2.2
                rw [HG.out] at h
                unfold Wr.good at h
                rw [hg] at h
                cases h
              clear hg hb
              go_wp2_with fail
              exact bodyPost_ret (v := .tuple #[.agg zeroW, .int .i64 0]) (by simp [results, Tryz.results95, go_sem, c0, c1, c2, c3, c4, c5, c6, c7, c8, c9]) rfl (by rw [R.out]; exact ⟨rfl, below10 hWZ hbw _ _ _ _ _ _ _ _ _ _⟩)
            · have R : Hid (takeWrB l = (⟨((numW l 0).1 : Nat), ((numW l 1).1 : Nat), ((numW l 2).1 : Nat), s1, ka, na, s2, kb, nb, s3⟩, p + k + m + o)) := by
                show _ = _
                rw [takeWr_yes, HG.out, hp3, HQ1.out, HQ2.out, HQ3.out]
                refine ⟨hA.out, by rw [HQ1.out]; exact hk0, by rw [HQ2.out]; exact hm0, by rw [HQ3.out]; exact ho0, ?_⟩
                rw [HG.out]
                exact hg
              clear hg hb
              go_wp2_with fail
              exact bodyPost_ret (v := .tuple #[.agg (wrI ((numW l 0).1 : Nat) ((numW l 1).1 : Nat) ((numW l 2).1 : Nat) s1 ka na s2 kb nb s3), .int .i64 ((p + k + m + o : Nat) : Int)]) (by simp [results, Tryz.results95, go_sem, c0, c1, c2, c3, c4, c5, c6, c7, c8, c9]) rfl (by rw [R.out]; exact ⟨rfl, below10 hWZ hbw _ _ _ _ _ _ _ _ _ _⟩)
end Go.Proofs.YtfpfalgbkbmkeaaGreatDoor

namespace Go.Proofs.YtfpfalgbkbmkeaaGreatDoor
open Go.RowKit

/-- The cells of writes. -/
abbrev wrV (l : List Wr) : List Value := l.flatMap fun x => x.cells.toList
theorem wrV_len (l : List Wr) : (wrV l).length = l.length * 10 := by
  induction l with
  | nil => rfl
  | cons x t ih =>
    show (x.cells.toList ++ wrV t).length = _
    rw [List.length_append, ih]
    show 10 + t.length * 10 = (t.length + 1) * 10
    omega
theorem wrV_get : ∀ (l : List Wr) (k j : Nat) (x : Wr) (v : Value), l[k]? = some x → x.cells[j]? = some v → (wrV l)[k * 10 + j]? = some v
  | [], k, j, x, v, h, _ => by simp at h
  | y :: t, 0, j, x, v, h, hv => by
    have e : y = x := by simpa using h
    subst e
    have hj : j < 10 := by
      have := (Array.getElem?_eq_some_iff.1 hv).1
      simpa using this
    show (y.cells.toList ++ wrV t)[0 * 10 + j]? = _
    rw [List.getElem?_append_left (by show _ < 10; omega), Nat.zero_mul, Nat.zero_add, Array.getElem?_toList]
    exact hv
  | y :: t, k + 1, j, x, v, h, hv => by
    have h2 : t[k]? = some x := by simpa using h
    have ih := wrV_get t k j x v h2 hv
    show (y.cells.toList ++ wrV t)[(k + 1) * 10 + j]? = _
    rw [List.getElem?_append_right (by show 10 ≤ _; omega)]
    show (wrV t)[(k + 1) * 10 + j - 10]? = _
    rw [show (k + 1) * 10 + j - 10 = k * 10 + j by omega]
    exact ih
/-- A row of writes that the call owns, in blocks from base on. -/
def OwnW (base : Nat) (W : World) (A : Option Addr) (n c : Nat) (l : List Wr) : Prop := W.ownsRow base 55 10 (.slice A n c) n (wrV l)
theorem OwnW.nil (base : Nat) (W : World) : OwnW base W none 0 0 [] := World.ownsRow_nil W base 55 10
theorem OwnW.len {base : Nat} {W : World} {A : Option Addr} {n c : Nat} {l : List Wr} (h : OwnW base W A n c l) : l.length = n := by
  have h1 := h.1
  have h2 := wrV_len l
  omega
theorem OwnW.rd {base : Nat} {W : World} {A : Option Addr} {n c : Nat} {l : List Wr} (h : OwnW base W A n c l) : RdW W.heap.size W A l := by
  intro k x hx
  have hk := (List.getElem?_eq_some_iff.1 hx).1
  have hl := h.len
  obtain ⟨g, cap, hv, _, hlt⟩ := World.ownsRow.form h (by omega)
  injection hv with hv
  subst hv
  exact ⟨_, rfl, hlt, fun j v hj => h.cells (g := g) rfl _ _ (wrV_get l k j x v hx hj)⟩
theorem OwnW.keep {base : Nat} {W W' : World} {A : Option Addr} {n c : Nat} {l : List Wr} (h : OwnW base W A n c l) (hb : Below W.heap.size W W') : OwnW base W' A n c l :=
  World.ownsRow.kept h (row := none) ⟨hb.os, hb.tape, hb.output, hb.size, fun k hk _ => hb.block k hk⟩ (by cases A <;> simp [Value.ownBlock])
theorem OwnW.less {base b2 : Nat} {W : World} {A : Option Addr} {n c : Nat} {l : List Wr} (h : OwnW base W A n c l) (hb : b2 ≤ base) : OwnW b2 W A n c l := by
  refine ⟨h.1, ?_⟩
  rcases h.2 with h | ⟨g, cap, cur, h1, h2, h3⟩
  · exact .inl h
  · exact .inr ⟨g, cap, cur, h1, by omega, h3⟩
theorem wr_info : (Tryz.prog.info? 55).map (fun i => (i.zero, i.size, i.bytes)) = some (some (.agg (wrI 0 0 0 ⟨#[]⟩ 0 0 ⟨#[]⟩ 0 0 ⟨#[]⟩)), 10, 104) := by kernel_rfl
theorem wr_one (x : Wr) : ∀ u ∈ x.cells.toList, u.oneCell' = true := by
  intro u hu
  simp only [List.mem_cons, List.not_mem_nil, or_false] at hu
  rcases hu with rfl | rfl | rfl | rfl | rfl | rfl | rfl | rfl | rfl | rfl <;> rfl
/-- Append of one write onto a row of the call's own. -/
theorem run_apW {P : Program} (w : World) {t t' e' ty : TypeId} {i : TypeInfo} (ht : P.underlying t = some (.slice 55)) (ht' : P.underlying t' = some (.slice e')) (hi : P.info? 55 = some i) (hz : i.zero = some (.agg (wrI 0 0 0 ⟨#[]⟩ 0 0 ⟨#[]⟩ 0 0 ⟨#[]⟩))) (hs : i.size = 10) (hy : i.bytes = 104)
    {base : Nat} {A : Option Addr} {ad : Addr} {n c d : Nat} {l : List Wr} {x : Wr} (hown : OwnW base w A n c l) (hr : ∀ j v, x.cells[j]? = some v → w.cell? (ad.add j) = some v) (hsz : n ≤ 1000000) (hbase : base ≤ w.heap.size) :
    ∃ A' c' w', (Builtin.append_ #[t, t'] ty #[.slice A n c, .slice (some ad) 1 d]).run P w = .ok (.slice A' (n + 1) c') w' ∧ OwnW base w' A' (n + 1) c' (l ++ [x]) ∧ Below base w w' := by
  obtain ⟨v', w', hrun, h2, h3, _, _⟩ := run_append_own_at (P := P) w base t ty 55 i (.agg (wrI 0 0 0 ⟨#[]⟩ 0 0 ⟨#[]⟩ 0 0 ⟨#[]⟩)) 10 104 ht hi hz hs hy rfl (by omega) (.slice A n c) n (wrV l) hown ad 1 d x.cells.toList rfl (fun j u hu => hr j u (by rw [← Array.getElem?_toList]; exact hu)) (wr_one x)
    (by unfold maxLen; omega) (by omega) hbase
  have hb : Below base w w' := (Below.refl base w).grown h3 hbase (fun k hk => (World.ownsRow.lt hown k hk).1)
  have hv : ∃ A' c', v' = .slice A' (n + 1) c' := by
    rcases h2.2 with ⟨_, e2⟩ | ⟨g, cap, cur, e1, _⟩
    · omega
    · exact ⟨_, _, e1⟩
  obtain ⟨A', c', rfl⟩ := hv
  refine ⟨A', c', w', by rw [run_append_tt w ht ht']; exact hrun, ?_, hb⟩
  unfold OwnW
  rw [show wrV (l ++ [x]) = wrV l ++ x.cells.toList by simp [wrV]]
  exact h2
section
variable {P : Program} {w : World} {t t' e' : TypeId} {i : TypeInfo} {base : Nat} {A : Option Addr} {ad : Addr} {n c d : Nat} {l : List Wr} {xx : Wr} {o : Oper} {a : Act} {Q : Exit → Act → World → Prop} {ops : Array Oper}
/-- .. in a plain region. -/
theorem wpList_apW {rest : List Oper} (hgd : o.guard = none) (s x : Operand) (ho : o.op = .call { callee := .builtin .append, args := #[s, x], argTypes := #[t, t'] })
    (ht : P.underlying t = some (.slice 55)) (ht' : P.underlying t' = some (.slice e')) (hi : P.info? 55 = some i) (hz : i.zero = some (.agg (wrI 0 0 0 ⟨#[]⟩ 0 0 ⟨#[]⟩ 0 0 ⟨#[]⟩))) (hs : i.size = 10) (hy : i.bytes = 104)
    (h1 : a.eval s = .slice A n c) (h2 : a.eval x = .slice (some ad) 1 d) (hown : OwnW base w A n c l) (hr : ∀ j v, xx.cells[j]? = some v → w.cell? (ad.add j) = some v) (hsz : n ≤ 1000000) (hbase : base ≤ w.heap.size)
    (h : ∀ A' c' w', OwnW base w' A' (n + 1) c' (l ++ [xx]) → Below base w w' → wpList P ops Q rest (a.put o.dst (.slice A' (n + 1) c')) w') : wpList P ops Q (o :: rest) a w := by
  refine wpList_plain hgd fun _ hK => ?_
  obtain ⟨A', c', w', hrun, k1, k2⟩ := run_apW (P := P) (ty := o.type) (d := d) w ht ht' hi hz hs hy hown hr hsz hbase
  unfold Oper.wp execOp
  simp only [ho, resolve, invoke, builtin, Sem.run_bind, Sem.run_pure, Result.andThen_ok, List.map_toArray, List.map_cons, List.map_nil, h1, h2, hrun]
  exact hK _ _ (h A' c' w' k1 k2)
end
end Go.Proofs.YtfpfalgbkbmkeaaGreatDoor

namespace Go.Proofs.YtfpfalgbkbmkeaaGreatDoor
open Go.RowKit
attribute [local go_sem ↓] Go.wp_at_zero Go.wp_at_succ

/-- Where the first j writes end; are they all there? -/
noncomputable def posWs (l : List UInt8) (most : Nat) : Nat → Nat
  | 0 => (takeNum l most).2
  | j + 1 => posWs l most j + (takeWrB (l.drop (posWs l most j))).2
noncomputable def nthWs (l : List UInt8) (most j : Nat) : Wr × Nat := takeWrB (l.drop (posWs l most j))
noncomputable def listWs (l : List UInt8) (most : Nat) : Nat → List Wr
  | 0 => []
  | j + 1 => listWs l most j ++ [(nthWs l most j).1]
def stdWs (l : List UInt8) (most : Nat) : Prop := (takeNum l most).2 ≠ 0 ∧ ∀ j, j < (takeNum l most).1 → (nthWs l most j).2 ≠ 0
open Classical in
/-- Writes, taken; how many bytes; 0: they don't stand there. -/
noncomputable def takeWrsB (l : List UInt8) (most : Nat) : List Wr × Nat :=
  if stdWs l most then (listWs l most (takeNum l most).1, posWs l most (takeNum l most).1) else ([], 0)
theorem takeWrs_no {l : List UInt8} {most : Nat} (h : ¬ stdWs l most) : takeWrsB l most = ([], 0) := if_neg h
theorem takeWrs_yes {l : List UInt8} {most : Nat} (h : stdWs l most) : takeWrsB l most = (listWs l most (takeNum l most).1, posWs l most (takeNum l most).1) := if_pos h
theorem listWs_len (l : List UInt8) (most : Nat) : ∀ j, (listWs l most j).length = j
  | 0 => rfl
  | j + 1 => by
    show (listWs l most j ++ [_]).length = _
    rw [List.length_append, listWs_len l most j]
    rfl
theorem takeWr_le (l : List UInt8) : (takeWrB l).2 ≤ l.length := by
  by_cases h : stdW l
  · rw [takeWr_yes h]
    have h1 := posW_le l 3
    have h2 := takeText_le (l.drop (posW l 3)) 20
    have h3 := takeVal_le (l.drop (posW l 3 + (textW l).2))
    have h4 := takeVal_le (l.drop (posW l 3 + (textW l).2 + (val1W l).2))
    rw [List.length_drop] at h2 h3 h4
    have e2 : (textW l).2 = (takeTextB (l.drop (posW l 3)) 20).2 := rfl
    have e3 : (val1W l).2 = (takeValB (l.drop (posW l 3 + (textW l).2))).2 := rfl
    have e4 : (val2W l).2 = (takeValB (l.drop (posW l 3 + (textW l).2 + (val1W l).2))).2 := rfl
    show posW l 3 + (textW l).2 + (val1W l).2 + (val2W l).2 ≤ _
    omega
  · rw [takeWr_no h]
    exact Nat.zero_le _
theorem posWs_le (l : List UInt8) (most : Nat) : ∀ j, posWs l most j ≤ l.length
  | 0 => (takeNum_lt l most).2.2.2
  | j + 1 => by
    have h := posWs_le l most j
    have k := takeWr_le (l.drop (posWs l most j))
    rw [List.length_drop] at k
    show posWs l most j + (takeWrB (l.drop (posWs l most j))).2 ≤ _
    omega
theorem posWs_succ (l : List UInt8) (most j : Nat) : posWs l most (j + 1) = posWs l most j + (nthWs l most j).2 := rfl
theorem add_zero_at (g j : Nat) : (⟨g, 0, none⟩ : Addr).add j = ⟨g, j, none⟩ := by
  unfold Addr.add
  by_cases h : j = 0
  · rw [if_pos h, h]
  · rw [if_neg h]
    simp
theorem new_cells (W : World) (x : Wr) (t : TypeId) : ∀ j v, x.cells[j]? = some v → (W.alloc (.cells x.cells t)).cell? ((⟨W.heap.size, 0, none⟩ : Addr).add j) = some v := by
  intro j v hv
  rw [add_zero_at, (blk_new W x.cells t).cell j]
  exact hv
/-- What TakeWrites answers: a slice that the call owns, nil of none. -/
def TakeWsP (r : List Wr × Nat) (w : World) (e : Ending) (w' : World) : Prop :=
  (∃ (A : Option Addr) (n c : Nat), e = .returned (.tuple #[.slice A n c, .int .i64 (r.2 : Nat)]) ∧ OwnW w.heap.size w' A n c r.1) ∧ Below w.heap.size w w'

set_option maxRecDepth 100000 in
set_option maxHeartbeats 4000000 in
theorem refTakeWrites_any {B : Nat} (A : Option Addr) (n c : Nat) (l : List UInt8) (most : Nat) (w : World) (hn : l.length = n) (hr : RdB B w A l) (hB : B ≤ w.heap.size) (hm : n ≤ 1000000) (hc : n ≤ c) (hmost : most ≤ 100000) :
    Calls Tryz.prog 46 #[.slice A n c, .int .u64 most] w fun e w' => TakeWsP (takeWrsB l most) w e w' := by
  have HN := Lib.hid hn
  have b3 : (n : Int) ≤ 1000000 := by omega
  have b4 : (n : Int) ≤ (c : Int) := by omega
  have hlt := takeNum_lt l most
  rw [hn] at hlt
  have HC := Lib.hid (fun W hr => refTakeNumber_any (B := B) A n c l most W hn hr hm (by omega))
  generalize hq : takeNum l most = r at HC hlt
  obtain ⟨v, k⟩ := r
  simp only at HC hlt
  have HQ := Lib.hid hq
  clear hq
  go_enter Tryz.func46, Tryz.ntmps46
  go_wp2_with fail
  refine (HC.out w hr).mono ?_
  rintro e w1 ⟨rfl, hD⟩
  by_cases hk : k = 0
  · have e0 : ((k : Int) == 0) = true := by rw [beq_iff_eq]; omega
    have R : Hid (takeWrsB l most = ([], 0)) := takeWrs_no fun h => by
      have := h.1
      rw [HQ.out] at this
      exact this hk
    clear hk
    go_wp2_with fail
    go_ret2
    rw [R.out]
    exact ⟨⟨none, 0, 0, rfl, OwnW.nil _ _⟩, hD.below _⟩
  · have e0 : ((k : Int) == 0) = false := by rw [beq_eq_false_iff_ne]; omega
    have hk2 : posWs l most 0 = k := congrArg Prod.snd HQ.out
    obtain ⟨i0, hi0, hz0, hz1, hz2⟩ := info_parts wr_info
    go_wp2_with fail
    go_loopw [7, 8, 9] (fun t u i wr => ∃ (j : Nat) (A3 : Option Addr) (c3 : Nat), j ≤ v ∧ i = .int .u64 j ∧ t = .int .i64 (posWs l most j : Nat) ∧ u = .slice A3 j c3 ∧ OwnW w.heap.size wr A3 j c3 (listWs l most j) ∧ Hid (∀ m, m < j → (nthWs l most m).2 ≠ 0) ∧ Below w.heap.size w wr) (fun _ _ i _ => v - (intOf i).toNat)
    case atStart => exact ⟨0, none, 0, Nat.zero_le _, rfl, by rw [hk2], rfl, OwnW.nil _ _, fun m hm => by omega, hD.below _⟩
    case round =>
      obtain ⟨j, A3, c3, hj, rfl, rfl, rfl, hO, hA, hW⟩ := hrel
      by_cases hlt2 : j < v
      · have i1 : (0 : Int) ≤ (j : Int) := by omega
        have i2 : (j : Int) < (v : Int) := by omega
        have hp := posWs_le l most j
        have hp2 := posWs_succ l most j
        have hp3 := posWs_le l most (j + 1)
        have HT : Hid (∀ W A' c', RdB B W A' (l.drop (posWs l most j)) → B ≤ W.heap.size → n - posWs l most j ≤ c' → Calls Tryz.prog 95 #[.slice A' (n - posWs l most j) c'] W fun e w' => TakeWP (nthWs l most j) W e w') :=
          fun W A' c' h h2 h3 => refTakeWrite_any A' _ c' _ W (by rw [List.length_drop, HN.out]) h h2 (by omega) h3
        have hrd := (hr.keep hW hB).cut (p := posWs l most j) (c := c) (by omega)
        have hs := fun W => run_cut W A n c (posWs l most j) (by omega)
        generalize posWs l most j = p at hp hp2 hrd hs HT ⊢
        have p0 : (0 : Int) ≤ (p : Int) := by omega
        have p1 : (p : Int) ≤ (n : Int) := by omega
        go_wp2_with fail
        refine (HT.out _ _ _ hrd (Nat.le_trans hB hW.size) (by omega)).mono ?_
        rintro e w2 ⟨rfl, hb2⟩
        have hW2 := bt hW hb2
        have hO2 := hO.keep hb2
        clear hW hO hb2 hrd hs HT
        have HL : Hid (listWs l most (j + 1) = listWs l most j ++ [(nthWs l most j).1]) := rfl
        generalize hq2 : nthWs l most j = r2 at hp2 HL ⊢
        obtain ⟨x, m⟩ := r2
        have HQ2 := Lib.hid hq2
        clear hq2
        simp only at hp2 HL
        by_cases hm0 : m = 0
        · have e1 : ((m : Int) == 0) = true := by rw [beq_iff_eq]; omega
          have R : Hid (takeWrsB l most = ([], 0)) := takeWrs_no fun h => by
            have := h.2 j (by rw [HQ.out]; exact hlt2)
            rw [HQ2.out] at this
            exact this hm0
          clear hm0
          go_wp2_with fail
          go_ret2
          rw [R.out]
          exact ⟨⟨none, 0, 0, rfl, OwnW.nil _ _⟩, ba hW2 _⟩
        · have e1 : ((m : Int) == 0) = false := by rw [beq_eq_false_iff_ne]; omega
          go_upto_region 11 with fail
          have hX := blk_new w2 x.cells 55
          have hW3 := ba hW2 (.cells x.cells 55)
          have hO3 := hO2.keep (b0 w2 (.cells x.cells 55))
          have HA2 : Hid (∀ q, q < j + 1 → (nthWs l most q).2 ≠ 0) := fun q hq => by
            by_cases e : q = j
            · rw [e, HQ2.out]; exact hm0
            · exact hA.out q (by omega)
          clear hW2 hO2 hm0 hA
          generalize w2.alloc (.cells x.cells 55) = W3 at hX hW3 hO3 ⊢
          generalize w2.heap.size = g at hX ⊢
          obtain ⟨c0, c1, c2, c30, c4, c5, c6, c7, c8, c9, c10⟩ := blk_c10 hX
          have m0 : (0 : Int) ≤ (m : Int) := by omega
          have m1 : (p : Int) + (m : Int) ≤ (n : Int) := by omega
          have hz := hW3.size
          go_wp2_with (at_builtin; refine wpList_apW (base := w.heap.size) (n := j) (l := listWs l most j) (xx := x) (ad := ⟨W3.heap.size, 0, none⟩) (by rfl) _ _ (by rfl) Tryz.underlying24 Tryz.underlying24 hi0 hz0 hz1 hz2 (by rfl) (by rfl) (hO3.keep (b0 _ _)) (new_cells W3 x _) (by omega) (by simp; omega) ?_; intro A5 c5 w5 hO5 hb5)
          rw [← HL.out] at hO5
          go_roundw
          case rel => exact ⟨j + 1, A5, c5, by omega, by go_num, by rw [hp2]; go_num, rfl, hO5, HA2, (hW3.alloc hz _).trans hb5⟩
          case measure => simp [intOf]; omega
      · have hq : ¬ (j : Int) < (v : Int) := by omega
        have hjv : j = v := by omega
        subst hjv
        have R : Hid (takeWrsB l most = (listWs l most j, posWs l most j)) := by
          show _ = _
          rw [takeWrs_yes, HQ.out]
          refine ⟨by rw [HQ.out]; exact hk, fun q hq => hA.out q ?_⟩
          rw [HQ.out] at hq
          exact hq
        clear hA
        go_wp2_with fail
        go_ret2
        rw [R.out]
        exact ⟨⟨A3, j, c3, rfl, hO⟩, hW⟩
end Go.Proofs.YtfpfalgbkbmkeaaGreatDoor

namespace Go.Proofs.YtfpfalgbkbmkeaaGreatDoor
open Go.RowKit
attribute [local go_sem ↓] Go.wp_at_zero Go.wp_at_succ

theorem str_ext {a b : ByteArray} (h : a.toList = b.toList) : a = b := by
  rw [ByteArray.toList_eq, ByteArray.toList_eq] at h
  cases a
  cases b
  simp only at h
  congr 1
  exact Array.toList_inj.1 h
theorem wr_neq {x y : Wr} (h : x ≠ y) (W : World) : (binOp .neq 55 (.agg x.cells) (.agg y.cells)).run Tryz.prog W = .ok (.bool true) W := by
  go_simp
  intro h0 h1 h2 h3 h4 h5 h6 h7 h8 h9
  refine h ?_
  have e3 := str_ext h3
  have e6 := str_ext h6
  have e9 := str_ext h9
  cases x
  cases y
  simp only at h0 h1 h2 e3 h4 h5 e6 h7 h8 e9
  simp only [h0, h1, h2, e3, h4, h5, e6, h7, h8, e9]
theorem wr_eq (x : Wr) (W : World) : (binOp .neq 55 (.agg x.cells) (.agg x.cells)).run Tryz.prog W = .ok (.bool false) W := by
  go_simp
open Classical in
/-- The same lists? -/
noncomputable def sameW (l l2 : List Wr) : Bool := decide (l = l2)
theorem sameW_iff (l l2 : List Wr) : sameW l l2 = true ↔ l = l2 := by
  unfold sameW
  simp
theorem sameW_no {l l2 : List Wr} (h : l ≠ l2) : sameW l l2 = false := Bool.eq_false_iff.2 fun e => h ((sameW_iff l l2).1 e)
theorem sameW_yes {l l2 : List Wr} (h : l = l2) : sameW l l2 = true := (sameW_iff l l2).2 h

set_option maxRecDepth 100000 in
set_option maxHeartbeats 4000000 in
theorem refWrSame_any {B C : Nat} (A A2 : Option Addr) (n c m d : Nat) (l l2 : List Wr) (w : World) (hn : l.length = n) (hr : RdW B w A l) (_hB : B ≤ w.heap.size) (hm : n ≤ 1000000) (hn2 : l2.length = m) (hr2 : RdW C w A2 l2) (_hC : C ≤ w.heap.size) :
    Calls Tryz.prog 37 #[.slice A n c, .slice A2 m d] w fun e w' => e = .returned (.bool (sameW l l2)) ∧ Drn w w' := by
  have HN := Lib.hid hn
  have HN2 := Lib.hid hn2
  by_cases hnm : n = m
  · subst hnm
    clear hn hn2
    go_enter Tryz.func37, Tryz.ntmps37
    go_wp2_with fail
    go_loopw [13] (fun i wr => ∃ k : Nat, k ≤ n ∧ i = .int .i64 k ∧ Hid (l.take k = l2.take k) ∧ Drn w wr) (fun i _ => n - (intOf i).toNat)
    case atStart => exact ⟨0, Nat.zero_le _, rfl, rfl, Drn.refl _⟩
    case round =>
      obtain ⟨k, hk, rfl, hA, hD⟩ := hrel
      by_cases hlt : k < n
      · obtain ⟨x, hx⟩ : ∃ x, l[k]? = some x := ⟨_, List.getElem?_eq_getElem (show k < l.length by have := HN.out; omega)⟩
        obtain ⟨y, hy⟩ : ∃ y, l2[k]? = some y := ⟨_, List.getElem?_eq_getElem (show k < l2.length by have := HN2.out; omega)⟩
        obtain ⟨ad, rfl, _, hc⟩ := (hr.keep (hD.below B) (Nat.le_refl _)) k x hx
        obtain ⟨ad2, rfl, _, hc2⟩ := (hr2.keep (hD.below C) (Nat.le_refl _)) k y hy
        have i1 : (0 : Int) ≤ (k : Int) := by omega
        have i2 : (k : Int) < (n : Int) := by omega
        have HX := Lib.hid hx
        have HY := Lib.hid hy
        clear hx hy
        obtain ⟨c0, c1, c2, c3, c4, c5, c6, c7, c8, c9⟩ := wr_cells hc
        obtain ⟨d0, d1, d2, d3, d4, d5, d6, d7, d8, d9⟩ := wr_cells hc2
        clear hc hc2
        by_cases hxy : x = y
        · subst hxy
          have he := fun W => wr_eq x W
          have HA2 : Hid (l.take (k + 1) = l2.take (k + 1)) := by
            show _ = _
            rw [List.take_add_one, List.take_add_one, HX.out, HY.out, hA.out]
          clear hA
          go_wp2_with fail
          go_quiet (fail)
          go_wp2_with fail
          go_roundw
          case rel => exact ⟨k + 1, by omega, by go_num, HA2, hD.draws _⟩
          case measure => simp [intOf]; omega
        · have he := fun W => wr_neq hxy W
          have R := Lib.hid (sameW_no (l := l) (l2 := l2) fun e => by
            have h1 := HX.out
            rw [e, HY.out] at h1
            injection h1 with h1
            exact hxy h1.symm)
          clear hA hxy
          go_wp2_with fail
          go_quiet (fail)
          go_wp2_with fail
          go_ret
          exact ⟨ret_bool R.out.symm, hD.draws _⟩
      · have hq : ¬ (k : Int) < (n : Int) := by omega
        have R : Hid (sameW l l2 = true) := sameW_yes (by
          have h := hA.out
          rw [List.take_of_length_le (by have := HN.out; omega), List.take_of_length_le (by have := HN2.out; omega)] at h
          exact h)
        clear hA
        go_wp2_with fail
        go_ret
        exact ⟨ret_bool R.out.symm, hD⟩
  · have e0 : ((n : Int) != (m : Int)) = true := by rw [bne_iff_ne]; omega
    have R := Lib.hid (sameW_no (l := l) (l2 := l2) (fun e => hnm (by rw [← HN.out, ← HN2.out, e])))
    clear hnm hn hn2
    go_enter Tryz.func37, Tryz.ntmps37
    go_wp2_with fail
    go_ret
    exact ⟨ret_bool R.out.symm, Drn.refl _⟩
end Go.Proofs.YtfpfalgbkbmkeaaGreatDoor

namespace Go.Proofs.YtfpfalgbkbmkeaaGreatDoor
open Go.RowKit

def valOf (st : Rest) : (Int × Int × List UInt8) × Rest := match st with
  | none => ((0, 0, []), none)
  | some b => if (takeValB b).2 = 0 then ((0, 0, []), none) else ((takeValB b).1, some (b.drop (takeValB b).2))
abbrev wrNo : Wr := ⟨0, 0, 0, ⟨#[]⟩, 0, 0, ⟨#[]⟩, 0, 0, ⟨#[]⟩⟩
noncomputable def wrOf (st : Rest) : Wr × Rest := match st with
  | none => (wrNo, none)
  | some b => if (takeWrB b).2 = 0 then (wrNo, none) else ((takeWrB b).1, some (b.drop (takeWrB b).2))
noncomputable def wrsOf (st : Rest) (most : Nat) : List Wr × Rest := match st with
  | none => ([], none)
  | some b => if (takeWrsB b most).2 = 0 then ([], none) else ((takeWrsB b most).1, some (b.drop (takeWrsB b most).2))
end Go.Proofs.YtfpfalgbkbmkeaaGreatDoor

namespace Go.Proofs.YtfpfalgbkbmkeaaGreatDoor

/-- A number of at most less. -/
theorem num_most (b : List UInt8) {m M : Nat} (h : m ≤ M) : takeNum b m = if (takeNum b M).2 = 0 then (0, 0) else if (takeNum b M).1 ≤ m then takeNum b M else (0, 0) := by
  cases b with
  | nil => rfl
  | cons c t =>
    rw [takeNum_cons, takeNum_cons]
    by_cases hc : 8 < c.toNat ∨ t.length < c.toNat ∨ (0 < c.toNat ∧ t.head? = some 0)
    · simp only [if_pos hc]
      rfl
    · simp only [if_neg hc]
      by_cases h1 : M < beV (t.take c.toNat)
      · have h2 : m < beV (t.take c.toNat) := by omega
        simp [h1, h2]
      · by_cases h2 : m < beV (t.take c.toNat)
        · have h3 : ¬ beV (t.take c.toNat) ≤ m := by omega
          simp [h1, h2, h3]
        · have h3 : beV (t.take c.toNat) ≤ m := by omega
          simp [h1, h2, h3]
/-- .. as a reader has it. -/
theorem numOf_most (st : Rest) {m M : Nat} (h : m ≤ M) : numOf st m = if (numOf st M).1 ≤ m then numOf st M else (0, none) := by
  cases st with
  | none => exact (if_pos (Nat.zero_le m)).symm
  | some b =>
    unfold numOf
    dsimp only
    rw [num_most b h]
    by_cases h0 : (takeNum b M).2 = 0
    · simp [h0]
    · by_cases h1 : (takeNum b M).1 ≤ m
      · simp [h0, h1]
      · simp [h0, h1]
theorem numOf_none {st : Rest} {m : Nat} (h : (numOf st m).2 = none) : (numOf st m).1 = 0 := by
  cases st with
  | none => rfl
  | some b =>
    revert h
    unfold numOf
    dsimp only
    by_cases h0 : (takeNum b m).2 = 0
    · simp [h0]
    · simp [h0]

abbrev valZ : Int × Int × List UInt8 := (0, 0, [])
/-- What a reader takes of a value, step by step. -/
def valM (st : Rest) : (Int × Int × List UInt8) × Rest :=
  if (numOf st 9223372036854775807).1 = 1 then (soundM valZ (intOfR (numOf st 9223372036854775807).2).2 (1, (intOfR (numOf st 9223372036854775807).2).1, []), (intOfR (numOf st 9223372036854775807).2).2)
  else if (numOf st 9223372036854775807).1 = 2 then (soundM valZ (textOf (numOf st 9223372036854775807).2 40).2 (2, 0, (textOf (numOf st 9223372036854775807).2 40).1), (textOf (numOf st 9223372036854775807).2 40).2)
  else (valZ, mustM (decide ((numOf st 9223372036854775807).1 = 0)) (numOf st 9223372036854775807).2)
theorem val_is (st : Rest) : valM st = valOf st := by
  cases st with
  | none => rfl
  | some b =>
    have hm := numOf_most (some b) (show 2 ≤ 9223372036854775807 by omega)
    have hv : valOf (some b) = if (takeValC (takeNum b 2).1 (takeNum b 2).2 b).2 = 0 then (valZ, none) else ((takeValC (takeNum b 2).1 (takeNum b 2).2 b).1, some (b.drop (takeValC (takeNum b 2).1 (takeNum b 2).2 b).2)) := rfl
    have hn : numOf (some b) 2 = if (takeNum b 2).2 = 0 then (0, none) else ((takeNum b 2).1, some (b.drop (takeNum b 2).2)) := rfl
    rw [hn] at hm
    rw [hv]
    unfold valM
    generalize numOf (some b) 9223372036854775807 = p at hm ⊢
    generalize takeNum b 2 = T at hm ⊢
    clear hv hn
    obtain ⟨k, st1⟩ := p
    obtain ⟨v, q⟩ := T
    dsimp only at hm ⊢
    by_cases hk : k ≤ 2
    · rw [if_pos hk] at hm
      by_cases hq : q = 0
      · rw [if_pos hq] at hm
        injection hm with h1 h2
        subst h1 h2 hq
        simp [takeValC, mustM_none]
      · rw [if_neg hq] at hm
        injection hm with h1 h2
        subst h1 h2
        have hk3 : v = 0 ∨ v = 1 ∨ v = 2 := by omega
        rcases hk3 with rfl | rfl | rfl
        · simp [takeValC, mustM, hq]
        · by_cases hi : (takeIntB (b.drop q)).2 = 0
          · simp [takeValC, hq, intOfR, soundM, hi]
          · simp [takeValC, hq, intOfR, soundM, hi, List.drop_drop]
        · by_cases hi : (takeTextB (b.drop q) 40).2 = 0
          · simp [takeValC, hq, textOf, soundM, hi]
          · simp [takeValC, hq, textOf, soundM, hi, List.drop_drop]
    · rw [if_neg hk] at hm
      by_cases hq : q = 0
      · subst hq
        have h0 : ¬ k = 0 := by omega
        have h1 : ¬ k = 1 := by omega
        have h2 : ¬ k = 2 := by omega
        simp [takeValC, mustM, h0, h1, h2]
      · rw [if_neg hq] at hm
        injection hm with _ h2
        cases h2
end Go.Proofs.YtfpfalgbkbmkeaaGreatDoor

namespace Go.Proofs.YtfpfalgbkbmkeaaGreatDoor

section
variable {α : Type}
/-- Where the j-th of them begins, the first one at p. f: what stands at the front, and how many bytes it has; 0: none does. -/
def posG (f : List UInt8 → α × Nat) (l : List UInt8) (p : Nat) : Nat → Nat
  | 0 => p
  | j + 1 => posG f l p j + (f (l.drop (posG f l p j))).2
def nthG (f : List UInt8 → α × Nat) (l : List UInt8) (p j : Nat) : α × Nat := f (l.drop (posG f l p j))
def listG (f : List UInt8 → α × Nat) (l : List UInt8) (p : Nat) : Nat → List α
  | 0 => []
  | j + 1 => listG f l p j ++ [(nthG f l p j).1]
theorem posG_succ (f : List UInt8 → α × Nat) (l : List UInt8) (p j : Nat) : posG f l p (j + 1) = posG f l p j + (nthG f l p j).2 := rfl
theorem listG_succ (f : List UInt8 → α × Nat) (l : List UInt8) (p j : Nat) : listG f l p (j + 1) = listG f l p j ++ [(nthG f l p j).1] := rfl
theorem listG_len (f : List UInt8 → α × Nat) (l : List UInt8) (p : Nat) : ∀ j, (listG f l p j).length = j
  | 0 => rfl
  | j + 1 => by rw [listG_succ, List.length_append, listG_len f l p j]; rfl
theorem posG_le {f : List UInt8 → α × Nat} (hf : ∀ b, (f b).2 ≤ b.length) {l : List UInt8} {p : Nat} (hp : p ≤ l.length) : ∀ j, posG f l p j ≤ l.length
  | 0 => hp
  | j + 1 => by
    have h := posG_le hf hp j
    have k := hf (l.drop (posG f l p j))
    rw [List.length_drop] at k
    show posG f l p j + (f (l.drop (posG f l p j))).2 ≤ _
    omega
theorem posG_up (f : List UInt8 → α × Nat) (l : List UInt8) (p : Nat) : ∀ j, p ≤ posG f l p j
  | 0 => Nat.le_refl _
  | j + 1 => Nat.le_trans (posG_up f l p j) (by rw [posG_succ]; omega)
/-- Do n of them stand there? -/
def StdG (f : List UInt8 → α × Nat) (l : List UInt8) (p n : Nat) : Prop := ∀ j, j < n → (nthG f l p j).2 ≠ 0
theorem stdG_low {f : List UInt8 → α × Nat} {l : List UInt8} {p m : Nat} (hf : ∀ b, (f b).2 ≠ 0 → m ≤ (f b).2) : ∀ n, StdG f l p n → p + m * n ≤ posG f l p n
  | 0, _ => Nat.le_refl _
  | n + 1, h => by
    have h1 := stdG_low hf n fun j hj => h j (by omega)
    have h2 := hf _ (h n (by omega))
    rw [posG_succ]
    unfold nthG
    rw [Nat.mul_succ]
    omega
open Classical in
/-- As many as the number ahead tells, if they stand there and are good; how many bytes; 0: they don't. -/
noncomputable def takeG (f : List UInt8 → α × Nat) (good : List α → Bool) (l : List UInt8) (most : Nat) : List α × Nat :=
  if (takeNum l most).2 ≠ 0 ∧ StdG f l (takeNum l most).2 (takeNum l most).1 ∧ good (listG f l (takeNum l most).2 (takeNum l most).1) = true then (listG f l (takeNum l most).2 (takeNum l most).1, posG f l (takeNum l most).2 (takeNum l most).1) else ([], 0)
theorem takeG_yes {f : List UInt8 → α × Nat} {good : List α → Bool} {l : List UInt8} {most n k : Nat} (hq : takeNum l most = (n, k)) (h0 : k ≠ 0) (h1 : StdG f l k n) (h2 : good (listG f l k n) = true) : takeG f good l most = (listG f l k n, posG f l k n) := by
  unfold takeG
  rw [hq]
  exact if_pos ⟨h0, h1, h2⟩
theorem takeG_no {f : List UInt8 → α × Nat} {good : List α → Bool} {l : List UInt8} {most n k : Nat} (hq : takeNum l most = (n, k)) (h : k = 0 ∨ (∃ j, j < n ∧ (nthG f l k j).2 = 0) ∨ good (listG f l k n) = false) : takeG f good l most = ([], 0) := by
  unfold takeG
  rw [hq]
  refine if_neg ?_
  rintro ⟨h0, h1, h2⟩
  rcases h with h | ⟨j, hj, hz⟩ | h
  · exact h0 h
  · exact h1 j hj hz
  · rw [h2] at h
    cases h
/-- Either so or so. -/
theorem takeG_or (f : List UInt8 → α × Nat) (good : List α → Bool) (l : List UInt8) (most : Nat) : takeG f good l most = ([], 0) ∨ ((takeG f good l most).2 ≠ 0 ∧ good (takeG f good l most).1 = true) := by
  unfold takeG
  split
  · rename_i h
    refine .inr ⟨?_, h.2.2⟩
    have := posG_up f l (takeNum l most).2 (takeNum l most).1
    dsimp only
    omega
  · exact .inl rfl
theorem takeG_len {f : List UInt8 → α × Nat} {good : List α → Bool} {l : List UInt8} {most : Nat} : (takeG f good l most).1.length ≤ (takeNum l most).1 := by
  unfold takeG
  split
  · rw [listG_len]
    exact Nat.le_refl _
  · exact Nat.zero_le _

/-- A reader's steps: s is one. -/
def repG (s : Rest → α × Rest) : Nat → Rest → List α × Rest
  | 0, st => ([], st)
  | n + 1, st => match st with
    | none => ([], none)
    | some b => ((s (some b)).1 :: (repG s n (s (some b)).2).1, (repG s n (s (some b)).2).2)
theorem repG_none (s : Rest → α × Rest) : ∀ n, repG s n none = ([], none)
  | 0 => rfl
  | _ + 1 => rfl
theorem repG_more (s : Rest → α × Rest) (n : Nat) (b : List UInt8) : repG s (n + 1) (some b) = ((s (some b)).1 :: (repG s n (s (some b)).2).1, (repG s n (s (some b)).2).2) := rfl
/-- Such a step, of f. -/
def StepG (f : List UInt8 → α × Nat) (s : Rest → α × Rest) : Prop := ∀ b, ((f b).2 = 0 → (s (some b)).2 = none) ∧ ((f b).2 ≠ 0 → s (some b) = ((f b).1, some (b.drop (f b).2)))
theorem repG_at {f : List UInt8 → α × Nat} {s : Rest → α × Rest} (hs : StepG f s) (l : List UInt8) (p : Nat) : ∀ (r j : Nat),
    ((∀ i, j ≤ i → i < j + r → (nthG f l p i).2 ≠ 0) → listG f l p j ++ (repG s r (some (l.drop (posG f l p j)))).1 = listG f l p (j + r) ∧ (repG s r (some (l.drop (posG f l p j)))).2 = some (l.drop (posG f l p (j + r)))) ∧
    ((∃ i, j ≤ i ∧ i < j + r ∧ (nthG f l p i).2 = 0) → (repG s r (some (l.drop (posG f l p j)))).2 = none)
  | 0, j => ⟨fun _ => ⟨List.append_nil _, rfl⟩, fun ⟨i, h1, h2, _⟩ => by omega⟩
  | r + 1, j => by
    have ih := repG_at hs l p r (j + 1)
    have hw := hs (l.drop (posG f l p j))
    rw [repG_more]
    by_cases h0 : (nthG f l p j).2 = 0
    · refine ⟨fun h => absurd h0 (h j (Nat.le_refl _) (by omega)), fun _ => ?_⟩
      rw [hw.1 h0, repG_none]
    · rw [hw.2 h0, List.drop_drop]
      refine ⟨fun h => ?_, fun ⟨i, h1, h2, h3⟩ => ?_⟩
      · obtain ⟨e1, e2⟩ := ih.1 (fun i h1 h2 => h i (by omega) (by omega))
        rw [show j + (r + 1) = j + 1 + r by omega]
        refine ⟨?_, e2⟩
        rw [← e1, listG_succ, List.append_assoc]
        rfl
      · have hij : i ≠ j := by
          rintro rfl
          exact h0 h3
        exact ih.2 ⟨i, by omega, by omega, h3⟩
/-- What a reader takes of a list, and has left; nothing: an error. -/
noncomputable def outG (f : List UInt8 → α × Nat) (good : List α → Bool) (st : Rest) (most : Nat) : Option (List α × List UInt8) := match st with
  | none => none
  | some b => if (takeG f good b most).2 = 0 then none else some ((takeG f good b most).1, b.drop (takeG f good b most).2)
/-- .. step by step. -/
def gotG (s : Rest → α × Rest) (good : List α → Bool) (st : Rest) (most : Nat) : Option (List α × List UInt8) := match (repG s (numOf st most).1 (numOf st most).2).2 with
  | none => none
  | some b => if good (repG s (numOf st most).1 (numOf st most).2).1 = true then some ((repG s (numOf st most).1 (numOf st most).2).1, b) else none
theorem got_is {f : List UInt8 → α × Nat} {s : Rest → α × Rest} (hs : StepG f s) (good : List α → Bool) (st : Rest) (most : Nat) : gotG s good st most = outG f good st most := by
  cases st with
  | none => rfl
  | some b =>
    have hno : takeG f good b most = ([], 0) → outG f good (some b) most = none := fun h => by
      unfold outG
      dsimp only
      rw [h]
      exact if_pos rfl
    cases hq : takeNum b most with
    | mk n k =>
      have e0 : numOf (some b) most = if k = 0 then (0, none) else (n, some (b.drop (posG f b k 0))) := by
        unfold numOf
        dsimp only
        rw [hq]
        rfl
      unfold gotG
      by_cases h0 : k = 0
      · rw [if_pos h0] at e0
        rw [e0, hno (takeG_no hq (.inl h0))]
        rfl
      · rw [if_neg h0] at e0
        rw [e0]
        dsimp only
        have hr := repG_at hs b k n 0
        rw [Nat.zero_add] at hr
        by_cases hx : ∃ j, j < n ∧ (nthG f b k j).2 = 0
        · obtain ⟨j, h1, h2⟩ := hx
          rw [hr.2 ⟨j, Nat.zero_le _, h1, h2⟩, hno (takeG_no hq (.inr (.inl ⟨j, h1, h2⟩)))]
        · have hS : StdG f b k n := fun j hj hz => hx ⟨j, hj, hz⟩
          obtain ⟨e1, e2⟩ := hr.1 (fun i _ h2 => hS i h2)
          have e3 : (repG s n (some (b.drop (posG f b k 0)))).1 = listG f b k n := e1
          rw [e2, e3]
          dsimp only
          cases hg : good (listG f b k n) with
          | true =>
            rw [if_pos rfl]
            unfold outG
            dsimp only
            rw [takeG_yes hq h0 hS hg]
            dsimp only
            rw [if_neg]
            have := posG_up f b k n
            omega
          | false =>
            rw [if_neg Bool.false_ne_true, hno (takeG_no hq (.inr (.inr hg)))]
/-- What is put is taken again. -/
def PutG (f : List UInt8 → α × Nat) (E : α → List UInt8) (x : α) : Prop := ∀ r, f (E x ++ r) = (x, (E x).length)
theorem nthG_put {f : List UInt8 → α × Nat} {E : α → List UInt8} (H : List UInt8) (l : List α) (r : List UInt8) (hg : ∀ x, x ∈ l → PutG f E x) : ∀ j, j ≤ l.length →
    posG f (H ++ l.flatMap E ++ r) H.length j = H.length + ((l.take j).flatMap E).length ∧ listG f (H ++ l.flatMap E ++ r) H.length j = l.take j ∧ (∀ q x, q < j → l[q]? = some x → nthG f (H ++ l.flatMap E ++ r) H.length q = (x, (E x).length))
  | 0, _ => ⟨by simp [posG], by simp [listG], fun q x hq => by omega⟩
  | j + 1, hj => by
    obtain ⟨h1, h2, h3⟩ := nthG_put H l r hg j (by omega)
    have hx : l[j]? = some l[j] := List.getElem?_eq_getElem (by omega)
    have hmem := List.mem_of_getElem? hx
    have hsplit : l = l.take j ++ l[j] :: l.drop (j + 1) := by
      rw [List.getElem_cons_drop, List.take_append_drop]
    have hn : nthG f (H ++ l.flatMap E ++ r) H.length j = (l[j], (E l[j]).length) := by
      unfold nthG
      rw [h1]
      have e1 : l.flatMap E = (l.take j).flatMap E ++ (E l[j] ++ (l.drop (j + 1)).flatMap E) := by
        conv => lhs; rw [hsplit]
        rw [List.flatMap_append, List.flatMap_cons]
      have e : H ++ l.flatMap E ++ r = (H ++ (l.take j).flatMap E) ++ (E l[j] ++ ((l.drop (j + 1)).flatMap E ++ r)) := by
        rw [e1]
        simp only [List.append_assoc]
      rw [e, List.drop_append_of_le_length (by simp), show H.length + ((l.take j).flatMap E).length = (H ++ (l.take j).flatMap E).length by simp, List.drop_length, List.nil_append]
      exact hg _ hmem _
    refine ⟨?_, ?_, ?_⟩
    · rw [posG_succ, hn, h1, List.take_succ_eq_append_getElem (by omega), List.flatMap_append, List.length_append, List.flatMap_cons, List.flatMap_nil, List.append_nil, Nat.add_assoc]
    · rw [listG_succ, hn, h2, List.take_succ_eq_append_getElem (by omega)]
    · intro q x hq hqx
      by_cases e : q = j
      · subst e
        rw [hx] at hqx
        injection hqx with hqx
        rw [← hqx]
        exact hn
      · exact h3 q x (by omega) hqx
theorem takeG_put {f : List UInt8 → α × Nat} {E : α → List UInt8} {good : List α → Bool} {l : List α} {most : Nat} (r : List UInt8) (hn : l.length < 18446744073709551616) (hm : l.length ≤ most) (hg : ∀ x, x ∈ l → PutG f E x) (h0 : ∀ x, x ∈ l → (E x).length ≠ 0) (hgood : good l = true) :
    takeG f good (numB l.length ++ l.flatMap E ++ r) most = (l, (numB l.length ++ l.flatMap E).length) := by
  obtain ⟨h1, h2, h3⟩ := nthG_put (f := f) (E := E) (numB l.length) l r hg l.length (Nat.le_refl _)
  rw [List.take_length] at h1 h2
  have hq : takeNum (numB l.length ++ l.flatMap E ++ r) most = (l.length, (numB l.length).length) := by
    rw [List.append_assoc]
    exact take_num _ hn hm
  rw [takeG_yes hq (by rw [numB_len]; omega) (fun j hj => ?_) (by rw [h2]; exact hgood), h1, h2, List.length_append]
  have hx : l[j]? = some l[j] := List.getElem?_eq_getElem hj
  rw [h3 j _ hj hx]
  exact h0 _ (List.mem_of_getElem? hx)
/-- A greater most doesn't matter, where fewer bytes stand there. -/
theorem takeG_most {f : List UInt8 → α × Nat} {good : List α → Bool} {l : List UInt8} {m M k : Nat} (hmM : m ≤ M) (hf : ∀ b, (f b).2 ≤ b.length) (hk : ∀ b, (f b).2 ≠ 0 → k ≤ (f b).2) (hl : l.length < k * (m + 1)) : takeG f good l M = takeG f good l m := by
  cases hq : takeNum l M with
  | mk n p =>
    have hm := num_most l hmM
    rw [hq] at hm
    dsimp only at hm
    by_cases h0 : p = 0
    · rw [if_pos h0] at hm
      rw [takeG_no hq (.inl h0), takeG_no hm (.inl rfl)]
    · rw [if_neg h0] at hm
      by_cases hn : n ≤ m
      · rw [if_pos hn] at hm
        unfold takeG
        rw [hq, hm]
      · rw [if_neg hn] at hm
        rw [takeG_no hm (.inl rfl)]
        refine takeG_no hq (.inr (.inl ?_))
        apply Classical.byContradiction
        intro hx
        have hS : StdG f l p n := fun j hj hz => hx ⟨j, hj, hz⟩
        have h1 := stdG_low hk n hS
        have hp : p ≤ l.length := by
          have := (takeNum_lt l M).2.2.2
          rw [hq] at this
          exact this
        have h2 := posG_le hf hp n
        have h3 : k * (m + 1) ≤ k * n := Nat.mul_le_mul_left _ (by omega)
        omega
end
end Go.Proofs.YtfpfalgbkbmkeaaGreatDoor
