/-
  WHAT IS PROVED: the walk of the law DeedCases: it returns true for every two values and number, where the library's variables hold what the program's text lays.
-/
import Derived.Test.YtmilcgikncecnaaDoorAwake2
import Derived.Test.YtmilcgikncecnaaDoorLawDoes
import Derived.Deep.DeepCutAuto
namespace Go.Proofs.YtmilcgikncecnaaDoor
open Go.RowKit

def QA (w : World) (ka na : Int) (sa : ByteArray) (W : World) : Prop := Blk W w.heap.size #[.int .i64 ka, .int .i64 na, .string sa] 26 ∧ Below w.heap.size w W
theorem qa_of {w W : World} {ka na : Int} {sa : ByteArray} (h1 : Blk W w.heap.size #[.int .i64 ka, .int .i64 na, .string sa] 26) (h2 : Below w.heap.size w W) : W.cell? ⟨w.heap.size, 0, none⟩ = some (.int .i64 ka) ∧ W.cell? ⟨w.heap.size, 1, none⟩ = some (.int .i64 na) ∧ W.cell? ⟨w.heap.size, 2, none⟩ = some (.string sa) ∧ QA w ka na sa W := ⟨h1.cell 0, h1.cell 1, h1.cell 2, h1, h2⟩
theorem qaHeld {w W w1 : World} {ka na : Int} {sa : ByteArray} (h : W.cell? ⟨w.heap.size, 0, none⟩ = some (.int .i64 ka) ∧ W.cell? ⟨w.heap.size, 1, none⟩ = some (.int .i64 na) ∧ W.cell? ⟨w.heap.size, 2, none⟩ = some (.string sa) ∧ QA w ka na sa W) (hb : Below W.heap.size W w1) : w1.cell? ⟨w.heap.size, 0, none⟩ = some (.int .i64 ka) ∧ w1.cell? ⟨w.heap.size, 1, none⟩ = some (.int .i64 na) ∧ w1.cell? ⟨w.heap.size, 2, none⟩ = some (.string sa) ∧ QA w ka na sa w1 := by
  obtain ⟨_, _, _, h1, h2⟩ := h
  exact qa_of (h1.keep hb) (bt h2 hb)
theorem qaNew {w W : World} {ka na : Int} {sa : ByteArray} (h : W.cell? ⟨w.heap.size, 0, none⟩ = some (.int .i64 ka) ∧ W.cell? ⟨w.heap.size, 1, none⟩ = some (.int .i64 na) ∧ W.cell? ⟨w.heap.size, 2, none⟩ = some (.string sa) ∧ QA w ka na sa W) (o : Obj) : (W.alloc o).cell? ⟨w.heap.size, 0, none⟩ = some (.int .i64 ka) ∧ (W.alloc o).cell? ⟨w.heap.size, 1, none⟩ = some (.int .i64 na) ∧ (W.alloc o).cell? ⟨w.heap.size, 2, none⟩ = some (.string sa) ∧ QA w ka na sa (W.alloc o) := qaHeld h (b0 W o)
theorem qaSet3 {w W : World} {ka na : Int} {sa : ByteArray} {c : Nat} (h : W.cell? ⟨w.heap.size, 0, none⟩ = some (.int .i64 ka) ∧ W.cell? ⟨w.heap.size, 1, none⟩ = some (.int .i64 na) ∧ W.cell? ⟨w.heap.size, 2, none⟩ = some (.string sa) ∧ QA w ka na sa W) (hc : w.heap.size < c) (v0 v1 v2 : Value) : (((W.setCell ⟨c, 0, none⟩ v0).setCell ⟨c, 1, none⟩ v1).setCell ⟨c, 2, none⟩ v2).cell? ⟨w.heap.size, 0, none⟩ = some (.int .i64 ka) ∧ (((W.setCell ⟨c, 0, none⟩ v0).setCell ⟨c, 1, none⟩ v1).setCell ⟨c, 2, none⟩ v2).cell? ⟨w.heap.size, 1, none⟩ = some (.int .i64 na) ∧ (((W.setCell ⟨c, 0, none⟩ v0).setCell ⟨c, 1, none⟩ v1).setCell ⟨c, 2, none⟩ v2).cell? ⟨w.heap.size, 2, none⟩ = some (.string sa) ∧ QA w ka na sa (((W.setCell ⟨c, 0, none⟩ v0).setCell ⟨c, 1, none⟩ v1).setCell ⟨c, 2, none⟩ v2) := by
  obtain ⟨_, _, _, h1, h2⟩ := h
  have hne : w.heap.size ≠ c := by omega
  have hle : w.heap.size ≤ c := by omega
  exact qa_of (((h1.other hne 0 v0).other hne 1 v1).other hne 2 v2) (((h2.setCell (p := ⟨c, 0, none⟩) hle v0).setCell (p := ⟨c, 1, none⟩) hle v1).setCell (p := ⟨c, 2, none⟩) hle v2)
def QB (w : World) (g : Nat) (ku nu ka na : Int) (su sa : ByteArray) (W : World) : Prop := Blk W g #[.int .i64 ku, .int .i64 nu, .string su] 26 ∧ Blk W w.heap.size #[.int .i64 ka, .int .i64 na, .string sa] 26 ∧ Below w.heap.size w W
theorem qb_of {w W : World} {g : Nat} {ku nu ka na : Int} {su sa : ByteArray} (h0 : Blk W g #[.int .i64 ku, .int .i64 nu, .string su] 26) (h1 : Blk W w.heap.size #[.int .i64 ka, .int .i64 na, .string sa] 26) (h2 : Below w.heap.size w W) : W.cell? ⟨g, 0, none⟩ = some (.int .i64 ku) ∧ W.cell? ⟨g, 1, none⟩ = some (.int .i64 nu) ∧ W.cell? ⟨g, 2, none⟩ = some (.string su) ∧ QB w g ku nu ka na su sa W := ⟨h0.cell 0, h0.cell 1, h0.cell 2, h0, h1, h2⟩
theorem qbHeld {w W w1 : World} {g : Nat} {ku nu ka na : Int} {su sa : ByteArray} (h : W.cell? ⟨g, 0, none⟩ = some (.int .i64 ku) ∧ W.cell? ⟨g, 1, none⟩ = some (.int .i64 nu) ∧ W.cell? ⟨g, 2, none⟩ = some (.string su) ∧ QB w g ku nu ka na su sa W) (hb : Below W.heap.size W w1) : w1.cell? ⟨g, 0, none⟩ = some (.int .i64 ku) ∧ w1.cell? ⟨g, 1, none⟩ = some (.int .i64 nu) ∧ w1.cell? ⟨g, 2, none⟩ = some (.string su) ∧ QB w g ku nu ka na su sa w1 := by
  obtain ⟨_, _, _, h0, h1, h2⟩ := h
  exact qb_of (h0.keep hb) (h1.keep hb) (bt h2 hb)
theorem qbNew {w W : World} {g : Nat} {ku nu ka na : Int} {su sa : ByteArray} (h : W.cell? ⟨g, 0, none⟩ = some (.int .i64 ku) ∧ W.cell? ⟨g, 1, none⟩ = some (.int .i64 nu) ∧ W.cell? ⟨g, 2, none⟩ = some (.string su) ∧ QB w g ku nu ka na su sa W) (o : Obj) : (W.alloc o).cell? ⟨g, 0, none⟩ = some (.int .i64 ku) ∧ (W.alloc o).cell? ⟨g, 1, none⟩ = some (.int .i64 nu) ∧ (W.alloc o).cell? ⟨g, 2, none⟩ = some (.string su) ∧ QB w g ku nu ka na su sa (W.alloc o) := qbHeld h (b0 W o)
theorem qbSet3 {w W : World} {g : Nat} {ku nu ka na : Int} {su sa : ByteArray} {c : Nat} (h : W.cell? ⟨g, 0, none⟩ = some (.int .i64 ku) ∧ W.cell? ⟨g, 1, none⟩ = some (.int .i64 nu) ∧ W.cell? ⟨g, 2, none⟩ = some (.string su) ∧ QB w g ku nu ka na su sa W) (hg : g < c) (hc : w.heap.size < c) (v0 v1 v2 : Value) : (((W.setCell ⟨c, 0, none⟩ v0).setCell ⟨c, 1, none⟩ v1).setCell ⟨c, 2, none⟩ v2).cell? ⟨g, 0, none⟩ = some (.int .i64 ku) ∧ (((W.setCell ⟨c, 0, none⟩ v0).setCell ⟨c, 1, none⟩ v1).setCell ⟨c, 2, none⟩ v2).cell? ⟨g, 1, none⟩ = some (.int .i64 nu) ∧ (((W.setCell ⟨c, 0, none⟩ v0).setCell ⟨c, 1, none⟩ v1).setCell ⟨c, 2, none⟩ v2).cell? ⟨g, 2, none⟩ = some (.string su) ∧ QB w g ku nu ka na su sa (((W.setCell ⟨c, 0, none⟩ v0).setCell ⟨c, 1, none⟩ v1).setCell ⟨c, 2, none⟩ v2) := by
  obtain ⟨_, _, _, h0, h1, h2⟩ := h
  have hn0 : g ≠ c := by omega
  have hne : w.heap.size ≠ c := by omega
  have hle : w.heap.size ≤ c := by omega
  exact qb_of (((h0.other hn0 0 v0).other hn0 1 v1).other hn0 2 v2) (((h1.other hne 0 v0).other hne 1 v1).other hne 2 v2) (((h2.setCell (p := ⟨c, 0, none⟩) hle v0).setCell (p := ⟨c, 1, none⟩) hle v1).setCell (p := ⟨c, 2, none⟩) hle v2)

set_option maxRecDepth 100000 in
set_option maxHeartbeats 8000000 in
theorem lawCases_badA (ka na kb nb n : Int) (sa sb : ByteArray) (w : World) (hL : LaidD w)
    (HGa : Hid (∀ W : World, Calls Tryd.prog 14 #[.agg #[.int .i64 ka, .int .i64 na, .string sa]] W fun e W' => e = .returned (.bool false) ∧ Below W.heap.size W W')) :
    Calls Tryd.prog 8 #[.agg #[.int .i64 ka, .int .i64 na, .string sa], .agg #[.int .i64 kb, .int .i64 nb, .string sb], .int .i64 n] w fun e w' => e = .returned (.bool true) ∧ Below w.heap.size w w' := by
  have HL := Lib.hid hL
  clear hL
  go_enter Tryd.func8, Tryd.ntmps8
  go_wp2_with fail
  have HA : Hid (Blk ((w.alloc (.cells #[.int .i64 ka, .int .i64 na, .string sa] 26)).alloc (.cells #[.int .i64 kb, .int .i64 nb, .string sb] 26)) w.heap.size #[.int .i64 ka, .int .i64 na, .string sa] 26) := (blk_new w _ _).alloc _
  have HB : Hid (Blk ((w.alloc (.cells #[.int .i64 ka, .int .i64 na, .string sa] 26)).alloc (.cells #[.int .i64 kb, .int .i64 nb, .string sb] 26)) (w.heap.size + 1) #[.int .i64 kb, .int .i64 nb, .string sb] 26) := blk_at (by simp) _ _
  have hB := ba (b0 w (.cells #[.int .i64 ka, .int .i64 na, .string sa] 26)) (.cells #[.int .i64 kb, .int .i64 nb, .string sb] 26)
  generalize (w.alloc (.cells #[.int .i64 ka, .int .i64 na, .string sa] 26)).alloc (.cells #[.int .i64 kb, .int .i64 nb, .string sb] 26) = W at HA HB hB ⊢
  refine (awake_any _ (HL.out.keep hB)).mono ?_
  rintro e w1 ⟨rfl, hbx⟩
  replace hB := bt hB hbx
  replace HA := Lib.hid (HA.out.keep hbx)
  replace HB := Lib.hid (HB.out.keep hbx)
  clear hbx
  obtain ⟨a0, a1, a2, a3⟩ := HA.out.c3
  obtain ⟨d0, d1, d2, d3⟩ := HB.out.c3
  go_wp2_with fail
  clear a0 a1 a2 a3 d0 d1 d2 d3
  refine (HGa.out _).mono ?_
  rintro e w2 ⟨rfl, hbx⟩
  replace hB := bt hB hbx
  replace HA := Lib.hid (HA.out.keep hbx)
  replace HB := Lib.hid (HB.out.keep hbx)
  clear hbx
  obtain ⟨a0, a1, a2, a3⟩ := HA.out.c3
  obtain ⟨d0, d1, d2, d3⟩ := HB.out.c3
  go_wp2_with fail
  refine (awake_any _ (HL.out.keep hB)).mono ?_
  rintro e w9 ⟨rfl, hb9⟩
  go_wp2_with fail
  go_ret
  exact ⟨rfl, bt hB hb9⟩

set_option maxRecDepth 100000 in
set_option maxHeartbeats 8000000 in
theorem lawCases_badB (ka na kb nb n : Int) (sa sb : ByteArray) (w : World) (hL : LaidD w)
    (HGa : Hid (∀ W : World, Calls Tryd.prog 14 #[.agg #[.int .i64 ka, .int .i64 na, .string sa]] W fun e W' => e = .returned (.bool true) ∧ Below W.heap.size W W'))
    (HGb : Hid (∀ W : World, Calls Tryd.prog 14 #[.agg #[.int .i64 kb, .int .i64 nb, .string sb]] W fun e W' => e = .returned (.bool false) ∧ Below W.heap.size W W')) :
    Calls Tryd.prog 8 #[.agg #[.int .i64 ka, .int .i64 na, .string sa], .agg #[.int .i64 kb, .int .i64 nb, .string sb], .int .i64 n] w fun e w' => e = .returned (.bool true) ∧ Below w.heap.size w w' := by
  have HL := Lib.hid hL
  clear hL
  go_enter Tryd.func8, Tryd.ntmps8
  go_wp2_with fail
  have HA : Hid (Blk ((w.alloc (.cells #[.int .i64 ka, .int .i64 na, .string sa] 26)).alloc (.cells #[.int .i64 kb, .int .i64 nb, .string sb] 26)) w.heap.size #[.int .i64 ka, .int .i64 na, .string sa] 26) := (blk_new w _ _).alloc _
  have HB : Hid (Blk ((w.alloc (.cells #[.int .i64 ka, .int .i64 na, .string sa] 26)).alloc (.cells #[.int .i64 kb, .int .i64 nb, .string sb] 26)) (w.heap.size + 1) #[.int .i64 kb, .int .i64 nb, .string sb] 26) := blk_at (by simp) _ _
  have hB := ba (b0 w (.cells #[.int .i64 ka, .int .i64 na, .string sa] 26)) (.cells #[.int .i64 kb, .int .i64 nb, .string sb] 26)
  generalize (w.alloc (.cells #[.int .i64 ka, .int .i64 na, .string sa] 26)).alloc (.cells #[.int .i64 kb, .int .i64 nb, .string sb] 26) = W at HA HB hB ⊢
  refine (awake_any _ (HL.out.keep hB)).mono ?_
  rintro e w1 ⟨rfl, hbx⟩
  replace hB := bt hB hbx
  replace HA := Lib.hid (HA.out.keep hbx)
  replace HB := Lib.hid (HB.out.keep hbx)
  clear hbx
  obtain ⟨a0, a1, a2, a3⟩ := HA.out.c3
  obtain ⟨d0, d1, d2, d3⟩ := HB.out.c3
  go_wp2_with fail
  clear a0 a1 a2 a3 d0 d1 d2 d3
  refine (HGa.out _).mono ?_
  rintro e w2 ⟨rfl, hbx⟩
  replace hB := bt hB hbx
  replace HA := Lib.hid (HA.out.keep hbx)
  replace HB := Lib.hid (HB.out.keep hbx)
  clear hbx
  obtain ⟨a0, a1, a2, a3⟩ := HA.out.c3
  obtain ⟨d0, d1, d2, d3⟩ := HB.out.c3
  go_wp2_with fail
  clear a0 a1 a2 a3 d0 d1 d2 d3
  refine (HGb.out _).mono ?_
  rintro e w3 ⟨rfl, hbx⟩
  replace hB := bt hB hbx
  replace HA := Lib.hid (HA.out.keep hbx)
  replace HB := Lib.hid (HB.out.keep hbx)
  clear hbx
  obtain ⟨a0, a1, a2, a3⟩ := HA.out.c3
  obtain ⟨d0, d1, d2, d3⟩ := HB.out.c3
  go_wp2_with fail
  refine (awake_any _ (HL.out.keep hB)).mono ?_
  rintro e w9 ⟨rfl, hb9⟩
  go_wp2_with fail
  go_ret
  exact ⟨rfl, bt hB hb9⟩

set_option maxRecDepth 100000 in
set_option maxHeartbeats 8000000 in
theorem lawCases_least (ka na kb nb n : Int) (sa sb : ByteArray) (w : World) (hL : LaidD w)
    (HGa : Hid (∀ W : World, Calls Tryd.prog 14 #[.agg #[.int .i64 ka, .int .i64 na, .string sa]] W fun e W' => e = .returned (.bool true) ∧ Below W.heap.size W W'))
    (HGb : Hid (∀ W : World, Calls Tryd.prog 14 #[.agg #[.int .i64 kb, .int .i64 nb, .string sb]] W fun e W' => e = .returned (.bool true) ∧ Below W.heap.size W W'))
    (hn : (n == -9223372036854775808) = true) :
    Calls Tryd.prog 8 #[.agg #[.int .i64 ka, .int .i64 na, .string sa], .agg #[.int .i64 kb, .int .i64 nb, .string sb], .int .i64 n] w fun e w' => e = .returned (.bool true) ∧ Below w.heap.size w w' := by
  have HL := Lib.hid hL
  clear hL
  go_enter Tryd.func8, Tryd.ntmps8
  go_wp2_with fail
  have HA : Hid (Blk ((w.alloc (.cells #[.int .i64 ka, .int .i64 na, .string sa] 26)).alloc (.cells #[.int .i64 kb, .int .i64 nb, .string sb] 26)) w.heap.size #[.int .i64 ka, .int .i64 na, .string sa] 26) := (blk_new w _ _).alloc _
  have HB : Hid (Blk ((w.alloc (.cells #[.int .i64 ka, .int .i64 na, .string sa] 26)).alloc (.cells #[.int .i64 kb, .int .i64 nb, .string sb] 26)) (w.heap.size + 1) #[.int .i64 kb, .int .i64 nb, .string sb] 26) := blk_at (by simp) _ _
  have hB := ba (b0 w (.cells #[.int .i64 ka, .int .i64 na, .string sa] 26)) (.cells #[.int .i64 kb, .int .i64 nb, .string sb] 26)
  generalize (w.alloc (.cells #[.int .i64 ka, .int .i64 na, .string sa] 26)).alloc (.cells #[.int .i64 kb, .int .i64 nb, .string sb] 26) = W at HA HB hB ⊢
  refine (awake_any _ (HL.out.keep hB)).mono ?_
  rintro e w1 ⟨rfl, hbx⟩
  replace hB := bt hB hbx
  replace HA := Lib.hid (HA.out.keep hbx)
  replace HB := Lib.hid (HB.out.keep hbx)
  clear hbx
  obtain ⟨a0, a1, a2, a3⟩ := HA.out.c3
  obtain ⟨d0, d1, d2, d3⟩ := HB.out.c3
  go_wp2_with fail
  clear a0 a1 a2 a3 d0 d1 d2 d3
  refine (HGa.out _).mono ?_
  rintro e w2 ⟨rfl, hbx⟩
  replace hB := bt hB hbx
  replace HA := Lib.hid (HA.out.keep hbx)
  replace HB := Lib.hid (HB.out.keep hbx)
  clear hbx
  obtain ⟨a0, a1, a2, a3⟩ := HA.out.c3
  obtain ⟨d0, d1, d2, d3⟩ := HB.out.c3
  go_wp2_with fail
  clear a0 a1 a2 a3 d0 d1 d2 d3
  refine (HGb.out _).mono ?_
  rintro e w3 ⟨rfl, hbx⟩
  replace hB := bt hB hbx
  replace HA := Lib.hid (HA.out.keep hbx)
  replace HB := Lib.hid (HB.out.keep hbx)
  clear hbx
  obtain ⟨a0, a1, a2, a3⟩ := HA.out.c3
  obtain ⟨d0, d1, d2, d3⟩ := HB.out.c3
  go_wp2_with fail
  refine (awake_any _ (HL.out.keep hB)).mono ?_
  rintro e w9 ⟨rfl, hb9⟩
  go_wp2_with fail
  go_ret
  exact ⟨rfl, bt hB hb9⟩

set_option maxRecDepth 100000 in
set_option maxHeartbeats 16000000 in
theorem lawCases_good (ka na kb nb n kx nx f ku nu ei kd nd ej : Int) (sa sb sx su sd : ByteArray) (w : World) (hL : LaidD w) (n0 : -9223372036854775807 ≤ n) (n1 : n ≤ 9223372036854775807) (hn : (n == -9223372036854775808) = false)
    (HGa : Hid (∀ W : World, Calls Tryd.prog 14 #[.agg #[.int .i64 ka, .int .i64 na, .string sa]] W fun e W' => e = .returned (.bool true) ∧ Below W.heap.size W W')) (HGb : Hid (∀ W : World, Calls Tryd.prog 14 #[.agg #[.int .i64 kb, .int .i64 nb, .string sb]] W fun e W' => e = .returned (.bool true) ∧ Below W.heap.size W W'))
    (C1 : Hid (∀ W : World, Calls Tryd.prog 15 #[opV 4 ⟨#[107]⟩ ka na sa kb nb sb, .agg #[.int .i64 ka, .int .i64 na, .string sa]] W fun e W' => e = .returned (pairV kb nb sb 0) ∧ Below W.heap.size W W'))
    (C2 : Hid (∀ W : World, Calls Tryd.prog 15 #[opV 4 ⟨#[107]⟩ ka na sa kb nb sb, .agg #[.int .i64 kb, .int .i64 nb, .string sb]] W fun e W' => e = .returned (pairV kx nx sx f) ∧ Below W.heap.size W W'))
    (HE : Hid ((ka = kb ∧ na = nb ∧ sa = sb ∧ f = 0) ∨ (f = 14 ∧ ka ≠ kb) ∨ (f = 14 ∧ ka = kb ∧ na ≠ nb) ∨ (f = 14 ∧ ka = kb ∧ na = nb ∧ sa.toList ≠ sb.toList)))
    (C3 : Hid (ka ≠ 0 → ∀ W : World, Calls Tryd.prog 15 #[opV 1 ⟨#[107]⟩ ka na sa 0 0 ⟨#[]⟩, .agg #[.int .i64 kb, .int .i64 nb, .string sb]] W fun e W' => e = .returned (pairV ka na sa 0) ∧ Below W.heap.size W W'))
    (C4 : Hid (ka ≠ 0 → ∀ W : World, Calls Tryd.prog 15 #[opV 2 ⟨#[107]⟩ 0 0 ⟨#[]⟩ 0 0 ⟨#[]⟩, .agg #[.int .i64 ka, .int .i64 na, .string sa]] W fun e W' => e = .returned (pairV 0 0 ⟨#[]⟩ 0) ∧ Below W.heap.size W W'))
    (C5 : Hid (∀ W : World, Calls Tryd.prog 15 #[opV 3 ⟨#[107]⟩ 1 n ⟨#[]⟩ 0 0 ⟨#[]⟩, .agg #[.int .i64 ka, .int .i64 na, .string sa]] W fun e W' => e = .returned (pairV ku nu su ei) ∧ Below W.heap.size W W'))
    (C6 : Hid (∀ W : World, Calls Tryd.prog 15 #[opV 3 ⟨#[107]⟩ 1 (-n) ⟨#[]⟩ 0 0 ⟨#[]⟩, .agg #[.int .i64 ku, .int .i64 nu, .string su]] W fun e W' => e = .returned (pairV kd nd sd ej) ∧ Below W.heap.size W W'))
    (HF : Hid ((ei ≠ 0 ∧ ku = ka ∧ nu = na ∧ su = sa) ∨ (ei = 0 ∧ ej = 0 ∧ kd = ka ∧ nd = na ∧ sd = sa))) :
    Calls Tryd.prog 8 #[.agg #[.int .i64 ka, .int .i64 na, .string sa], .agg #[.int .i64 kb, .int .i64 nb, .string sb], .int .i64 n] w fun e w' => e = .returned (.bool true) ∧ Below w.heap.size w w' := by
  have HL := Lib.hid hL
  clear hL
  go_enter Tryd.func8, Tryd.ntmps8
  go_wp2_with fail
  have HA : Hid (Blk ((w.alloc (.cells #[.int .i64 ka, .int .i64 na, .string sa] 26)).alloc (.cells #[.int .i64 kb, .int .i64 nb, .string sb] 26)) w.heap.size #[.int .i64 ka, .int .i64 na, .string sa] 26) := (blk_new w _ _).alloc _
  have HB : Hid (Blk ((w.alloc (.cells #[.int .i64 ka, .int .i64 na, .string sa] 26)).alloc (.cells #[.int .i64 kb, .int .i64 nb, .string sb] 26)) (w.heap.size + 1) #[.int .i64 kb, .int .i64 nb, .string sb] 26) := blk_at (by simp) _ _
  have hB := ba (b0 w (.cells #[.int .i64 ka, .int .i64 na, .string sa] 26)) (.cells #[.int .i64 kb, .int .i64 nb, .string sb] 26)
  generalize (w.alloc (.cells #[.int .i64 ka, .int .i64 na, .string sa] 26)).alloc (.cells #[.int .i64 kb, .int .i64 nb, .string sb] 26) = W at HA HB hB ⊢
  refine (awake_any _ (HL.out.keep hB)).mono ?_
  rintro e w1 ⟨rfl, hbx⟩
  replace hB := bt hB hbx
  replace HA := Lib.hid (HA.out.keep hbx)
  replace HB := Lib.hid (HB.out.keep hbx)
  clear hbx
  obtain ⟨a0, a1, a2, a3⟩ := HA.out.c3
  obtain ⟨d0, d1, d2, d3⟩ := HB.out.c3
  go_wp2_with fail
  clear a0 a1 a2 a3 d0 d1 d2 d3
  refine (HGa.out _).mono ?_
  rintro e w2 ⟨rfl, hbx⟩
  replace hB := bt hB hbx
  replace HA := Lib.hid (HA.out.keep hbx)
  replace HB := Lib.hid (HB.out.keep hbx)
  clear hbx
  obtain ⟨a0, a1, a2, a3⟩ := HA.out.c3
  obtain ⟨d0, d1, d2, d3⟩ := HB.out.c3
  go_wp2_with fail
  clear a0 a1 a2 a3 d0 d1 d2 d3
  refine (HGb.out _).mono ?_
  rintro e w3 ⟨rfl, hbx⟩
  replace hB := bt hB hbx
  replace HA := Lib.hid (HA.out.keep hbx)
  replace HB := Lib.hid (HB.out.keep hbx)
  clear hbx
  obtain ⟨a0, a1, a2, a3⟩ := HA.out.c3
  obtain ⟨d0, d1, d2, d3⟩ := HB.out.c3
  go_wp2_with fail
  replace hB := ba hB (.cells (opC 4 ⟨#[107]⟩ ka na sa kb nb sb) 28)
  have HO := Lib.hid (blk_new w3 (opC 4 ⟨#[107]⟩ ka na sa kb nb sb) 28)
  replace HA := Lib.hid (HA.out.alloc (.cells (opC 4 ⟨#[107]⟩ ka na sa kb nb sb) 28))
  replace HB := Lib.hid (HB.out.alloc (.cells (opC 4 ⟨#[107]⟩ ka na sa kb nb sb) 28))
  clear a0 a1 a2 a3 d0 d1 d2 d3
  refine (C1.out _).mono ?_
  rintro e w4 ⟨rfl, hbx⟩
  replace hB := bt hB hbx
  replace HA := Lib.hid (HA.out.keep hbx)
  replace HB := Lib.hid (HB.out.keep hbx)
  replace HO := Lib.hid (HO.out.keep hbx)
  clear hbx
  have HX := Lib.hid (blk_new w4 #[.int .i64 kb, .int .i64 nb, .string sb] 26)
  have lo := HO.out.lt
  have lb := HB.out.lt
  have la := HA.out.lt
  obtain ⟨a0, a1, a2, a3⟩ := HA.out.c3
  obtain ⟨d0, d1, d2, d3⟩ := HB.out.c3
  obtain ⟨o0, o1, o2, o3, o4, o5, o6, o7, o8⟩ := HO.out.c8
  go_wp2_with fail
  clear o0 o1 o2 o3 o4 o5 o6 o7 o8 HO
  replace hB := ba hB (.cells #[.int .i64 kb, .int .i64 nb, .string sb] 26)
  replace HA := Lib.hid (HA.out.alloc (.cells #[.int .i64 kb, .int .i64 nb, .string sb] 26))
  replace HB := Lib.hid (HB.out.alloc (.cells #[.int .i64 kb, .int .i64 nb, .string sb] 26))
  clear a0 a1 a2 a3 d0 d1 d2 d3
  refine (C2.out _).mono ?_
  rintro e w5 ⟨rfl, hbx⟩
  replace hB := bt hB hbx
  replace HA := Lib.hid (HA.out.keep hbx)
  replace HB := Lib.hid (HB.out.keep hbx)
  replace HX := Lib.hid (HX.out.keep hbx)
  clear hbx
  obtain ⟨a0, a1, a2, a3⟩ := HA.out.c3
  obtain ⟨d0, d1, d2, d3⟩ := HB.out.c3
  obtain ⟨x0, x1, x2, x3⟩ := HX.out.c3
  go_upto_region 6 with fail
  replace hB := ba hB (.cells #[.int .i64 kx, .int .i64 nx, .string sx] 26)
  replace HA := Lib.hid (HA.out.alloc (.cells #[.int .i64 kx, .int .i64 nx, .string sx] 26))
  replace HB := Lib.hid (HB.out.alloc (.cells #[.int .i64 kx, .int .i64 nx, .string sx] 26))
  replace HX := Lib.hid (HX.out.alloc (.cells #[.int .i64 kx, .int .i64 nx, .string sx] 26))
  clear a0 a1 a2 a3 d0 d1 d2 d3
  clear x0 x1 x2 x3 lo lb la
  generalize w5.alloc (.cells #[.int .i64 kx, .int .i64 nx, .string sx] 26) = W6 at hB HA HB HX ⊢
  go_cut [66] (fun s66 wx => s66 = .bool false ∧ wx = W6)
  case first =>
    obtain ⟨a0, a1, a2, a3⟩ := HA.out.c3
    obtain ⟨d0, d1, d2, d3⟩ := HB.out.c3
    obtain ⟨x0, x1, x2, x3⟩ := HX.out.c3
    rcases HE.out with ⟨rfl, rfl, rfl, rfl⟩ | ⟨rfl, z⟩ | ⟨rfl, rfl, z⟩ | ⟨rfl, rfl, rfl, z⟩
    all_goals
      go_wp2_with fail
      go_meet
      exact ⟨rfl, rfl⟩
  case rest =>
    obtain ⟨rfl, rfl⟩ := hcut
    have HQ := HB
    clear HE HB HX C1 C2
    obtain ⟨a0, a1, a2, a3⟩ := HA.out.c3
    go_upto_if 69 with fail
    clear a0 a1 a2 a3
    go_cut [3] (fun s3 wx => s3 = .pointer (some ⟨w.heap.size, 0, none⟩) ∧ Blk wx w.heap.size #[.int .i64 ka, .int .i64 na, .string sa] 26 ∧ Below w.heap.size w wx)
    case first =>
      by_cases z : ka = 0
      · have z1 : (ka != 0) = false := by rw [z]; rfl
        go_wp2_with fail
        go_meet
        exact ⟨rfl, HA.out, hB⟩
      · have z1 : (ka != 0) = true := by simpa using z
        obtain ⟨a0, a1, a2, a3⟩ := HA.out.c3
        obtain ⟨d0, d1, d2, d3⟩ := HQ.out.c3
        go_wp2_with fail
        refine (C3.out z _).mono ?_
        rintro e w7 ⟨rfl, hbx⟩
        replace hB := bt hB hbx
        replace HA := Lib.hid (HA.out.keep hbx)
        clear hbx a0 a1 a2 a3 d0 d1 d2 d3
        have HY := Lib.hid (blk_new w7 #[.int .i64 ka, .int .i64 na, .string sa] 26)
        have la := HA.out.lt
        go_wp2_with fail
        replace hB := ba hB (.cells #[.int .i64 ka, .int .i64 na, .string sa] 26)
        replace HA := Lib.hid (HA.out.alloc (.cells #[.int .i64 ka, .int .i64 na, .string sa] 26))
        refine (C4.out z _).mono ?_
        rintro e w8 ⟨rfl, hbx⟩
        replace hB := bt hB hbx
        replace HA := Lib.hid (HA.out.keep hbx)
        replace HY := Lib.hid (HY.out.keep hbx)
        clear hbx
        generalize w7.heap.size = YB at HY la ⊢
        obtain ⟨a0, a1, a2, a3⟩ := HA.out.c3
        obtain ⟨y0, y1, y2, y3⟩ := HY.out.c3
        go_wp2_with fail
        go_meet
        exact ⟨rfl, HA.out.alloc _, ba hB _⟩
    case rest =>
      obtain ⟨rfl, hA, hB⟩ := hcut
      clear HA C3 C4 HQ
      have HA := Lib.hid hA
      clear hA
      go_upto_region 13 with fail
      go_cut [16, 17] (fun s16 s17 wx => ∃ g : Nat, s16 = .pointer (some ⟨g, 0, none⟩) ∧ s17 = .int .i64 ei ∧ Blk wx g #[.int .i64 ku, .int .i64 nu, .string su] 26 ∧ Blk wx w.heap.size #[.int .i64 ka, .int .i64 na, .string sa] 26 ∧ Below w.heap.size w wx)
      case first =>
        have HS := Lib.hid (qa_of (W := wc.drew) HA.out hB.drew)
        have HSA : Hid (∀ o : Obj, (wc.alloc o).drew.cell? ⟨w.heap.size, 0, none⟩ = some (.int .i64 ka) ∧ (wc.alloc o).drew.cell? ⟨w.heap.size, 1, none⟩ = some (.int .i64 na) ∧ (wc.alloc o).drew.cell? ⟨w.heap.size, 2, none⟩ = some (.string sa) ∧ QA w ka na sa (wc.alloc o).drew) := fun o => qa_of (W := (wc.alloc o).drew) (HA.out.alloc o) ((ba hB o).drew)
        have hlt := HA.out.lt
        clear hB
        go_region_held3 (fun W' => W'.cell? ⟨w.heap.size, 0, none⟩ = some (.int .i64 ka) ∧ W'.cell? ⟨w.heap.size, 1, none⟩ = some (.int .i64 na) ∧ W'.cell? ⟨w.heap.size, 2, none⟩ = some (.string sa) ∧ QA w ka na sa W') (first | with_reducible exact HS.out | with_reducible exact SD.out | with_reducible exact SI.out | with_reducible exact HSA.out _ | with_reducible exact qaNew SI.out _ | with_reducible exact qaNew SD.out _ | with_reducible exact qaSet3 SD.out (by omega) _ _ _) (first | (go_at_call 21; ((with_reducible refine (refInt_any n _).mono ?_); rintro e w1 ⟨rfl, hbI⟩; have SI := Lib.hid (qaHeld (by assumption) hbI); obtain ⟨hcI, hfI⟩ := bcell hbI; have hzI := hbI.size; (try simp at hzI))) | (go_at_call 15; ((with_reducible refine (C5.out _).mono ?_); rintro e w2 ⟨rfl, hbD⟩; have SD := Lib.hid (qaHeld (by assumption) hbD); (first | have hbC := bt hbI hbD | have hbC := bt hbI (bt (b0 w1 _) hbD)); clear hcI hfI; obtain ⟨hcC, hfC⟩ := bcell hbC; obtain ⟨hcD, hfD⟩ := bcell hbD; have hzD := hbD.size; have hzC := hbC.size; (try simp at hzD); (try simp at hzC))))
        · have hH := (by assumption : _ ∧ _ ∧ _ ∧ QA w ka na sa (w2.alloc (.cells #[.int .i64 ku, .int .i64 nu, .string su] 26))).2.2.2
          go_wp2_with fail
          go_meet
          exact ⟨_, rfl, rfl, blk_new w2 #[.int .i64 ku, .int .i64 nu, .string su] 26, hH.1, hH.2⟩
        · have hH := (by assumption : _ ∧ _ ∧ _ ∧ QA w ka na sa (((w2.setCell ⟨w1.heap.size, 0, none⟩ (.int .i64 ku)).setCell ⟨w1.heap.size, 1, none⟩ (.int .i64 nu)).setCell ⟨w1.heap.size, 2, none⟩ (.string su))).2.2.2
          have hV := ((((blk_new w1 #[.int .i64 0, .int .i64 0, .string ⟨#[]⟩] 26).keep hbD).set 0 (.int .i64 ku)).set 1 (.int .i64 nu)).set 2 (.string su)
          clear hcC hfC hcD hfD hzD hzC
          go_wp2_with fail
          go_meet
          exact ⟨_, rfl, rfl, hV, hH.1, hH.2⟩
        · have hH := (by assumption : _ ∧ _ ∧ _ ∧ QA w ka na sa (((w2.setCell ⟨wc.heap.size, 0, none⟩ (.int .i64 ku)).setCell ⟨wc.heap.size, 1, none⟩ (.int .i64 nu)).setCell ⟨wc.heap.size, 2, none⟩ (.string su))).2.2.2
          have hV := ((((kept hbD (kept hbI (blk_new wc #[.int .i64 0, .int .i64 0, .string ⟨#[]⟩] 26)))).set 0 (.int .i64 ku)).set 1 (.int .i64 nu)).set 2 (.string su)
          clear hcC hfC hcD hfD hzD hzC
          go_wp2_with fail
          go_meet
          exact ⟨_, rfl, rfl, hV, hH.1, hH.2⟩
      case rest =>
        obtain ⟨g, rfl, rfl, hU, hA, hB⟩ := hcut
        clear HA C5
        have HA := Lib.hid hA
        have HU := Lib.hid hU
        clear hA hU
        have hneg : IntKind.i64.wrap (-n) = -n := IntWalk.i64_in _ (by omega)
        go_upto_region 14 with fail
        go_cut [18, 19] (fun s18 s19 wx => ∃ d : Nat, s18 = .pointer (some ⟨d, 0, none⟩) ∧ s19 = .int .i64 ej ∧ Blk wx d #[.int .i64 kd, .int .i64 nd, .string sd] 26 ∧ Blk wx g #[.int .i64 ku, .int .i64 nu, .string su] 26 ∧ Blk wx w.heap.size #[.int .i64 ka, .int .i64 na, .string sa] 26 ∧ Below w.heap.size w wx)
        case first =>
          have HS := Lib.hid (qb_of (W := wc.drew) HU.out HA.out hB.drew)
          have HSA : Hid (∀ o : Obj, (wc.alloc o).drew.cell? ⟨g, 0, none⟩ = some (.int .i64 ku) ∧ (wc.alloc o).drew.cell? ⟨g, 1, none⟩ = some (.int .i64 nu) ∧ (wc.alloc o).drew.cell? ⟨g, 2, none⟩ = some (.string su) ∧ QB w g ku nu ka na su sa (wc.alloc o).drew) := fun o => qb_of (W := (wc.alloc o).drew) (HU.out.alloc o) (HA.out.alloc o) ((ba hB o).drew)
          have hlt := HA.out.lt
          have hlu := HU.out.lt
          clear hB
          go_region_held3 (fun W' => W'.cell? ⟨g, 0, none⟩ = some (.int .i64 ku) ∧ W'.cell? ⟨g, 1, none⟩ = some (.int .i64 nu) ∧ W'.cell? ⟨g, 2, none⟩ = some (.string su) ∧ QB w g ku nu ka na su sa W') (first | with_reducible exact HS.out | with_reducible exact SD.out | with_reducible exact SI.out | with_reducible exact HSA.out _ | with_reducible exact qbNew SI.out _ | with_reducible exact qbNew SD.out _ | with_reducible exact qbSet3 SD.out (by omega) (by omega) _ _ _) (first | (go_at_call 21; ((with_reducible refine (refInt_any (-n) _).mono ?_); rintro e w1 ⟨rfl, hbI⟩; have SI := Lib.hid (qbHeld (by assumption) hbI); obtain ⟨hcI, hfI⟩ := bcell hbI; have hzI := hbI.size; (try simp at hzI))) | (go_at_call 15; ((with_reducible refine (C6.out _).mono ?_); rintro e w2 ⟨rfl, hbD⟩; have SD := Lib.hid (qbHeld (by assumption) hbD); (first | have hbC := bt hbI hbD | have hbC := bt hbI (bt (b0 w1 _) hbD)); clear hcI hfI; obtain ⟨hcC, hfC⟩ := bcell hbC; obtain ⟨hcD, hfD⟩ := bcell hbD; have hzD := hbD.size; have hzC := hbC.size; (try simp at hzD); (try simp at hzC))))
          · have hH := (by assumption : _ ∧ _ ∧ _ ∧ QB w g ku nu ka na su sa (w2.alloc (.cells #[.int .i64 kd, .int .i64 nd, .string sd] 26))).2.2.2
            go_wp2_with fail
            go_meet
            exact ⟨_, rfl, rfl, blk_new w2 #[.int .i64 kd, .int .i64 nd, .string sd] 26, hH.1, hH.2.1, hH.2.2⟩
          · have hH := (by assumption : _ ∧ _ ∧ _ ∧ QB w g ku nu ka na su sa (((w2.setCell ⟨w1.heap.size, 0, none⟩ (.int .i64 kd)).setCell ⟨w1.heap.size, 1, none⟩ (.int .i64 nd)).setCell ⟨w1.heap.size, 2, none⟩ (.string sd))).2.2.2
            have hV := ((((blk_new w1 #[.int .i64 0, .int .i64 0, .string ⟨#[]⟩] 26).keep hbD).set 0 (.int .i64 kd)).set 1 (.int .i64 nd)).set 2 (.string sd)
            clear hcC hfC hcD hfD hzD hzC
            go_wp2_with fail
            go_meet
            exact ⟨_, rfl, rfl, hV, hH.1, hH.2.1, hH.2.2⟩
          · have hH := (by assumption : _ ∧ _ ∧ _ ∧ QB w g ku nu ka na su sa (((w2.setCell ⟨wc.heap.size, 0, none⟩ (.int .i64 kd)).setCell ⟨wc.heap.size, 1, none⟩ (.int .i64 nd)).setCell ⟨wc.heap.size, 2, none⟩ (.string sd))).2.2.2
            have hV := ((((kept hbD (kept hbI (blk_new wc #[.int .i64 0, .int .i64 0, .string ⟨#[]⟩] 26)))).set 0 (.int .i64 kd)).set 1 (.int .i64 nd)).set 2 (.string sd)
            clear hcC hfC hcD hfD hzD hzC
            go_wp2_with fail
            go_meet
            exact ⟨_, rfl, rfl, hV, hH.1, hH.2.1, hH.2.2⟩
        case rest =>
          obtain ⟨d, rfl, rfl, hD, hU, hA, hB⟩ := hcut
          clear HA HU C6
          obtain ⟨a0, a1, a2, a3⟩ := hA.c3
          obtain ⟨u0, u1, u2, u3⟩ := hU.c3
          obtain ⟨d0, d1, d2, d3⟩ := hD.c3
          clear hA hU hD
          rcases HF.out with ⟨he, rfl, rfl, rfl⟩ | ⟨rfl, rfl, rfl, rfl, rfl⟩
          · have he1 : (ei != 0) = true := by simpa using he
            have he2 : (ei == 0) = false := by simpa using he
            go_wp2_with fail
            go_ret
            exact ⟨rfl, hB⟩
          · go_wp2_with fail
            go_ret
            exact ⟨rfl, hB⟩

theorem nil_of {k n : Int} {s : ByteArray} (h : goodB k n s = true) (h1 : k = 1) : s = ⟨#[]⟩ := by
  subst h1
  rcases good_words h with ⟨e, _⟩ | ⟨_, e⟩ | ⟨e, _⟩
  · omega
  · exact data_eq' e
  · omega
theorem lawCases_any (ka na : Int) (sa : ByteArray) (kb nb : Int) (sb : ByteArray) (n : Int) (w : World) (_ : -9223372036854775808 ≤ ka ∧ ka ≤ 9223372036854775807) (h0 : -9223372036854775808 ≤ na ∧ na ≤ 9223372036854775807) (ha : sa.size ≤ maxLen)
    (_ : -9223372036854775808 ≤ kb ∧ kb ≤ 9223372036854775807) (h1 : -9223372036854775808 ≤ nb ∧ nb ≤ 9223372036854775807) (hb : sb.size ≤ maxLen) (hnn : -9223372036854775808 ≤ n ∧ n ≤ 9223372036854775807) (hL : LaidD w) :
    Calls Tryd.prog 8 #[.agg #[.int .i64 ka, .int .i64 na, .string sa], .agg #[.int .i64 kb, .int .i64 nb, .string sb], .int .i64 n] w fun e w' => e = .returned (.bool true) ∧ Below w.heap.size w w' := by
  have HGa := fun W => refGood_any ka na sa W ha
  have HGb := fun W => refGood_any kb nb sb W hb
  cases ga : goodB ka na sa with
  | false =>
    rw [ga] at HGa
    exact lawCases_badA ka na kb nb n sa sb w hL HGa
  | true =>
    rw [ga] at HGa
    cases gb : goodB kb nb sb with
    | false =>
      rw [gb] at HGb
      exact lawCases_badB ka na kb nb n sa sb w hL HGa HGb
    | true =>
      rw [gb] at HGb
      by_cases hn : n = -9223372036854775808
      · exact lawCases_least ka na kb nb n sa sb w hL HGa HGb (beqt hn)
      · have za := size_40 ga
        have zb := size_40 gb
        have zn : goodB 1 (-n) ⟨#[]⟩ = true := decide_eq_true (Or.inr (Or.inl ⟨rfl, rfl⟩))
        have z0 : goodB 0 0 ⟨#[]⟩ = true := by decide
        have bn : -9223372036854775808 ≤ n ∧ n ≤ 9223372036854775807 := hnn
        have bm : -9223372036854775808 ≤ -n ∧ -n ≤ 9223372036854775807 := by omega
        have C1 := fun W => do_any 4 ka na kb nb ka na ⟨#[107]⟩ sa sb sa W h0 h0 kb nb sb 0 (doV_cas na kb nb na ka ka sa sb sa ⟨rfl, rfl, rfl⟩) (by omega)
        have C3 := fun (_ : ka ≠ 0) W => do_any 1 ka na 0 0 kb nb ⟨#[107]⟩ sa ⟨#[]⟩ sb W h0 h1 ka na sa 0 (doV_put ka na 0 0 kb nb sa ⟨#[]⟩ sb) (by omega)
        have C4 := fun (z : ka ≠ 0) W => do_any 2 0 0 0 0 ka na ⟨#[107]⟩ ⟨#[]⟩ ⟨#[]⟩ sa W (by decide) h0 0 0 ⟨#[]⟩ 0 (doV_del1 0 0 0 0 ka na ⟨#[]⟩ ⟨#[]⟩ sa z) (by decide)
        obtain ⟨f, C2, HE⟩ : ∃ f : Int, (∀ W : World, Calls Tryd.prog 15 #[opV 4 ⟨#[107]⟩ ka na sa kb nb sb, .agg #[.int .i64 kb, .int .i64 nb, .string sb]] W fun e W' => e = .returned (pairV kb nb sb f) ∧ Below W.heap.size W W') ∧
            ((ka = kb ∧ na = nb ∧ sa = sb ∧ f = 0) ∨ (f = 14 ∧ ka ≠ kb) ∨ (f = 14 ∧ ka = kb ∧ na ≠ nb) ∨ (f = 14 ∧ ka = kb ∧ na = nb ∧ sa.toList ≠ sb.toList)) := by
          by_cases e : kb = ka ∧ nb = na ∧ sb.data.toList = sa.data.toList
          · exact ⟨0, fun W => do_any 4 ka na kb nb kb nb ⟨#[107]⟩ sa sb sb W h0 h1 kb nb sb 0 (doV_cas na kb nb nb kb ka sa sb sb e) (by omega), Or.inl ⟨e.1.symm, e.2.1.symm, data_eq' e.2.2.symm, rfl⟩⟩
          · refine ⟨14, fun W => do_any 4 ka na kb nb kb nb ⟨#[107]⟩ sa sb sb W h0 h1 kb nb sb 14 (doV_case na kb nb nb kb ka sa sb sb e) (by omega), Or.inr ?_⟩
            by_cases e1 : ka = kb
            · by_cases e2 : na = nb
              · refine Or.inr (Or.inr ⟨rfl, e1, e2, fun e3 => e ⟨e1.symm, e2.symm, ?_⟩⟩)
                rw [ByteArray.toList_eq, ByteArray.toList_eq] at e3
                exact e3.symm
              · exact Or.inr (Or.inl ⟨rfl, e1, e2⟩)
            · exact Or.inl ⟨rfl, e1⟩
        have fail5 : ∀ ei : Int, ei ≠ 0 → doV 3 1 n 0 0 ka na ⟨#[]⟩ ⟨#[]⟩ sa = (ka, na, sa, ei) → Calls Tryd.prog 8 #[.agg #[.int .i64 ka, .int .i64 na, .string sa], .agg #[.int .i64 kb, .int .i64 nb, .string sb], .int .i64 n] w fun e w' => e = .returned (.bool true) ∧ Below w.heap.size w w' := by
          intro ei hei h5
          have C5 := fun W => do_any 3 1 n 0 0 ka na ⟨#[107]⟩ ⟨#[]⟩ ⟨#[]⟩ sa W bn h0 ka na sa ei h5 (by omega)
          obtain ⟨⟨kd, nd, sd, ej⟩, h6⟩ : ∃ r, doV 3 1 (-n) 0 0 ka na ⟨#[]⟩ ⟨#[]⟩ sa = r := ⟨_, rfl⟩
          have g6 := size_40 (doV_good h6 zn z0 ga)
          have C6 := fun W => do_any 3 1 (-n) 0 0 ka na ⟨#[107]⟩ ⟨#[]⟩ ⟨#[]⟩ sa W bm h0 kd nd sd ej h6 (by omega)
          exact lawCases_good ka na kb nb n kb nb f ka na ei kd nd ej sa sb sb sa sd w hL (by omega) hnn.2 (beqf hn) HGa HGb C1 C2 HE C3 C4 C5 C6 (Or.inl ⟨hei, rfl, rfl, rfl⟩)
        by_cases k1 : ka = 1
        · have hs := nil_of ga k1
          subst k1
          subst hs
          by_cases g : -9223372036854775808 ≤ na + n ∧ na + n ≤ 9223372036854775807
          · have C5 := fun W => do_any 3 1 n 0 0 1 na ⟨#[107]⟩ ⟨#[]⟩ ⟨#[]⟩ ⟨#[]⟩ W bn h0 1 (na + n) ⟨#[]⟩ 0 (doV_sum n 0 0 na ⟨#[]⟩ ⟨#[]⟩ ⟨#[]⟩ g) (by decide)
            have h6 : doV 3 1 (-n) 0 0 1 (na + n) ⟨#[]⟩ ⟨#[]⟩ ⟨#[]⟩ = (1, na, ⟨#[]⟩, 0) := by
              rw [doV_sum (-n) 0 0 (na + n) ⟨#[]⟩ ⟨#[]⟩ ⟨#[]⟩ (by omega)]
              rw [show na + n + -n = na by omega]
            have C6 := fun W => do_any 3 1 (-n) 0 0 1 (na + n) ⟨#[107]⟩ ⟨#[]⟩ ⟨#[]⟩ ⟨#[]⟩ W bm g 1 na ⟨#[]⟩ 0 h6 (by decide)
            exact lawCases_good 1 na kb nb n kb nb f 1 (na + n) 0 1 na 0 ⟨#[]⟩ sb sb ⟨#[]⟩ ⟨#[]⟩ w hL (by omega) hnn.2 (beqf hn) HGa HGb C1 C2 HE C3 C4 C5 C6 (Or.inr ⟨rfl, rfl, rfl, rfl, rfl⟩)
          · exact fail5 12 (by decide) (doV_over n 0 0 na ⟨#[]⟩ ⟨#[]⟩ ⟨#[]⟩ g)
        · exact fail5 13 (by decide) (doV_kind 1 n 0 0 ka na ⟨#[]⟩ ⟨#[]⟩ sa (fun x => k1 x.1))
end Go.Proofs.YtmilcgikncecnaaDoor
