/-
  WHAT IS PROVED: the walk of the law CellOrder: it returns true for every three values.
-/
import Derived.Test.YtjamocfpfibhfaaDoorGood
import Derived.Test.YtjamocfpfibhfaaDoorAwake
import Derived.Test.YtjamocfpfibhfaaDoorOrd
import Derived.Deep.RegionHeld3
namespace Go.Proofs.YtjamocfpfibhfaaDoor
open Go.RowKit

theorem refGood_yes {k n : Int} {s : ByteArray} (h : goodB k n s = true) (w : World) (hs : s.size ≤ maxLen) :
    Calls Tryd.prog 10 #[.agg #[.int .i64 k, .int .i64 n, .string s]] w fun e w' => e = .returned (.bool true) ∧ Below w.heap.size w w' := by
  have := refGood_any k n s w hs
  rwa [h] at this
theorem refGood_no {k n : Int} {s : ByteArray} (h : goodB k n s = false) (w : World) (hs : s.size ≤ maxLen) :
    Calls Tryd.prog 10 #[.agg #[.int .i64 k, .int .i64 n, .string s]] w fun e w' => e = .returned (.bool false) ∧ Below w.heap.size w w' := by
  have := refGood_any k n s w hs
  rwa [h] at this
theorem good_plain {k n : Int} {s : ByteArray} (h : goodB k n s = true) : GoodV k n s.data.toList := by
  have hl : s.data.toList.length = s.size := Array.length_toList
  have he : s.size = 0 → s.data.toList = [] := fun h0 => List.length_eq_zero_iff.1 (by omega)
  simp only [goodB, decide_eq_true_eq] at h
  rcases h with ⟨h1, h2, h3⟩ | ⟨h1, h3⟩ | ⟨h1, h2, _⟩
  · exact Or.inl ⟨h1, h2, he h3⟩
  · exact Or.inr (Or.inl ⟨h1, he h3⟩)
  · exact Or.inr (Or.inr ⟨h1, h2⟩)

/-- Three structs of three cells, known in a world that has only grown. -/
theorem held9 {B : Nat} {w W w1 : World} {a0 a1 a2 c0 c1 c2 d0 d1 d2 : Value}
    (h : W.cell? ⟨B, 0, none⟩ = some a0 ∧ W.cell? ⟨B, 1, none⟩ = some a1 ∧ W.cell? ⟨B, 2, none⟩ = some a2 ∧ W.cell? ⟨B + 1, 0, none⟩ = some c0 ∧ W.cell? ⟨B + 1, 1, none⟩ = some c1 ∧ W.cell? ⟨B + 1, 2, none⟩ = some c2 ∧
      W.cell? ⟨B + 1 + 1, 0, none⟩ = some d0 ∧ W.cell? ⟨B + 1 + 1, 1, none⟩ = some d1 ∧ W.cell? ⟨B + 1 + 1, 2, none⟩ = some d2 ∧ Below B w W ∧ B + 2 < W.heap.size)
    (hb : Below W.heap.size W w1) :
    w1.cell? ⟨B, 0, none⟩ = some a0 ∧ w1.cell? ⟨B, 1, none⟩ = some a1 ∧ w1.cell? ⟨B, 2, none⟩ = some a2 ∧ w1.cell? ⟨B + 1, 0, none⟩ = some c0 ∧ w1.cell? ⟨B + 1, 1, none⟩ = some c1 ∧ w1.cell? ⟨B + 1, 2, none⟩ = some c2 ∧
      w1.cell? ⟨B + 1 + 1, 0, none⟩ = some d0 ∧ w1.cell? ⟨B + 1 + 1, 1, none⟩ = some d1 ∧ w1.cell? ⟨B + 1 + 1, 2, none⟩ = some d2 ∧ Below B w w1 ∧ B + 2 < w1.heap.size := by
  obtain ⟨h0, h1, h2, k0, k1, k2, m0, m1, m2, hB, hz⟩ := h
  have hs := hb.size
  have hc := (bcell hb).1
  exact ⟨(hc _ _ (by omega)).trans h0, (hc _ _ (by omega)).trans h1, (hc _ _ (by omega)).trans h2, (hc _ _ (by omega)).trans k0, (hc _ _ (by omega)).trans k1, (hc _ _ (by omega)).trans k2,
    (hc _ _ (by omega)).trans m0, (hc _ _ (by omega)).trans m1, (hc _ _ (by omega)).trans m2, hB.trans (hb.mono (by omega)), by omega⟩
theorem held9d {B : Nat} {w W : World} {a0 a1 a2 c0 c1 c2 d0 d1 d2 : Value}
    (h : W.cell? ⟨B, 0, none⟩ = some a0 ∧ W.cell? ⟨B, 1, none⟩ = some a1 ∧ W.cell? ⟨B, 2, none⟩ = some a2 ∧ W.cell? ⟨B + 1, 0, none⟩ = some c0 ∧ W.cell? ⟨B + 1, 1, none⟩ = some c1 ∧ W.cell? ⟨B + 1, 2, none⟩ = some c2 ∧
      W.cell? ⟨B + 1 + 1, 0, none⟩ = some d0 ∧ W.cell? ⟨B + 1 + 1, 1, none⟩ = some d1 ∧ W.cell? ⟨B + 1 + 1, 2, none⟩ = some d2 ∧ Below B w W ∧ B + 2 < W.heap.size) :
    W.drew.cell? ⟨B, 0, none⟩ = some a0 ∧ W.drew.cell? ⟨B, 1, none⟩ = some a1 ∧ W.drew.cell? ⟨B, 2, none⟩ = some a2 ∧ W.drew.cell? ⟨B + 1, 0, none⟩ = some c0 ∧ W.drew.cell? ⟨B + 1, 1, none⟩ = some c1 ∧ W.drew.cell? ⟨B + 1, 2, none⟩ = some c2 ∧
      W.drew.cell? ⟨B + 1 + 1, 0, none⟩ = some d0 ∧ W.drew.cell? ⟨B + 1 + 1, 1, none⟩ = some d1 ∧ W.drew.cell? ⟨B + 1 + 1, 2, none⟩ = some d2 ∧ Below B w W.drew ∧ B + 2 < W.drew.heap.size := by
  obtain ⟨h0, h1, h2, k0, k1, k2, m0, m1, m2, hB, hz⟩ := h
  exact ⟨by simpa using h0, by simpa using h1, by simpa using h2, by simpa using k0, by simpa using k1, by simpa using k2, by simpa using m0, by simpa using m1, by simpa using m2, hB.drew, hz⟩
theorem held9s (w : World) (a0 a1 a2 c0 c1 c2 d0 d1 d2 : Value) (t : TypeId) :
    (((w.alloc (.cells #[a0, a1, a2] t)).alloc (.cells #[c0, c1, c2] t)).alloc (.cells #[d0, d1, d2] t)).cell? ⟨w.heap.size, 0, none⟩ = some a0 ∧ (((w.alloc (.cells #[a0, a1, a2] t)).alloc (.cells #[c0, c1, c2] t)).alloc (.cells #[d0, d1, d2] t)).cell? ⟨w.heap.size, 1, none⟩ = some a1 ∧
      (((w.alloc (.cells #[a0, a1, a2] t)).alloc (.cells #[c0, c1, c2] t)).alloc (.cells #[d0, d1, d2] t)).cell? ⟨w.heap.size, 2, none⟩ = some a2 ∧ (((w.alloc (.cells #[a0, a1, a2] t)).alloc (.cells #[c0, c1, c2] t)).alloc (.cells #[d0, d1, d2] t)).cell? ⟨w.heap.size + 1, 0, none⟩ = some c0 ∧
      (((w.alloc (.cells #[a0, a1, a2] t)).alloc (.cells #[c0, c1, c2] t)).alloc (.cells #[d0, d1, d2] t)).cell? ⟨w.heap.size + 1, 1, none⟩ = some c1 ∧ (((w.alloc (.cells #[a0, a1, a2] t)).alloc (.cells #[c0, c1, c2] t)).alloc (.cells #[d0, d1, d2] t)).cell? ⟨w.heap.size + 1, 2, none⟩ = some c2 ∧
      (((w.alloc (.cells #[a0, a1, a2] t)).alloc (.cells #[c0, c1, c2] t)).alloc (.cells #[d0, d1, d2] t)).cell? ⟨w.heap.size + 1 + 1, 0, none⟩ = some d0 ∧ (((w.alloc (.cells #[a0, a1, a2] t)).alloc (.cells #[c0, c1, c2] t)).alloc (.cells #[d0, d1, d2] t)).cell? ⟨w.heap.size + 1 + 1, 1, none⟩ = some d1 ∧
      (((w.alloc (.cells #[a0, a1, a2] t)).alloc (.cells #[c0, c1, c2] t)).alloc (.cells #[d0, d1, d2] t)).cell? ⟨w.heap.size + 1 + 1, 2, none⟩ = some d2 ∧ Below w.heap.size w (((w.alloc (.cells #[a0, a1, a2] t)).alloc (.cells #[c0, c1, c2] t)).alloc (.cells #[d0, d1, d2] t)) ∧
      w.heap.size + 2 < (((w.alloc (.cells #[a0, a1, a2] t)).alloc (.cells #[c0, c1, c2] t)).alloc (.cells #[d0, d1, d2] t)).heap.size := by
  refine ⟨by go_simp, by go_simp, by go_simp, by go_simp, by go_simp, by go_simp, by go_simp, by go_simp, by go_simp, ba (ba (b0 _ _) _) _, by simp⟩

set_option maxHeartbeats 2000000 in
theorem lawOrder_bad (ka na kb nb kc nc : Int) (sa sb sc : ByteArray) (w : World) (ha : sa.size ≤ maxLen) (hb : sb.size ≤ maxLen) (hc : sc.size ≤ maxLen)
    (h : goodB ka na sa = false ∨ goodB kb nb sb = false ∨ goodB kc nc sc = false) :
    Calls Tryd.prog 4 #[.agg #[.int .i64 ka, .int .i64 na, .string sa], .agg #[.int .i64 kb, .int .i64 nb, .string sb], .agg #[.int .i64 kc, .int .i64 nc, .string sc]] w fun e w' => e = .returned (.bool true) ∧ Below w.heap.size w w' := by
  by_cases ga : goodB ka na sa = false
  · clear h
    have Ga := Lib.hid ga
    clear ga
    go_enter Tryd.func4, Tryd.ntmps4
    go_wp2_with fail
    have hk0 := held9s w (.int .i64 ka) (.int .i64 na) (.string sa) (.int .i64 kb) (.int .i64 nb) (.string sb) (.int .i64 kc) (.int .i64 nc) (.string sc) 24
    generalize ((w.alloc (.cells #[.int .i64 ka, .int .i64 na, .string sa] 24)).alloc (.cells #[.int .i64 kb, .int .i64 nb, .string sb] 24)).alloc (.cells #[.int .i64 kc, .int .i64 nc, .string sc] 24) = W at hk0 ⊢
    refine (awake_any _).mono ?_
    rintro e w1 ⟨rfl, hb1⟩
    have hk1 := held9 hk0 hb1
    go_wp2_with fail
    refine (refGood_no Ga.out _ ha).mono ?_
    rintro e w2 ⟨rfl, hb2⟩
    have hk2 := held9 hk1 hb2
    go_wp2_with fail
    refine (awake_any _).mono ?_
    rintro e w3 ⟨rfl, hb3⟩
    have hk3 := held9 hk2 hb3
    go_wp2_with fail
    go_ret
    exact ⟨rfl, hk3.2.2.2.2.2.2.2.2.2.1⟩
  · have Ga : Hid (goodB ka na sa = true) := by show _ = _; simpa using ga
    by_cases gb : goodB kb nb sb = false
    · have Gb := Lib.hid gb
      clear ga gb h
      go_enter Tryd.func4, Tryd.ntmps4
      go_wp2_with fail
      have hk0 := held9s w (.int .i64 ka) (.int .i64 na) (.string sa) (.int .i64 kb) (.int .i64 nb) (.string sb) (.int .i64 kc) (.int .i64 nc) (.string sc) 24
      generalize ((w.alloc (.cells #[.int .i64 ka, .int .i64 na, .string sa] 24)).alloc (.cells #[.int .i64 kb, .int .i64 nb, .string sb] 24)).alloc (.cells #[.int .i64 kc, .int .i64 nc, .string sc] 24) = W at hk0 ⊢
      refine (awake_any _).mono ?_
      rintro e w1 ⟨rfl, hb1⟩
      have hk1 := held9 hk0 hb1
      go_wp2_with fail
      refine (refGood_yes Ga.out _ ha).mono ?_
      rintro e w2 ⟨rfl, hb2⟩
      have hk2 := held9 hk1 hb2
      go_wp2_with fail
      refine (refGood_no Gb.out _ hb).mono ?_
      rintro e w3 ⟨rfl, hb3⟩
      have hk3 := held9 hk2 hb3
      go_wp2_with fail
      refine (awake_any _).mono ?_
      rintro e w4 ⟨rfl, hb4⟩
      have hk4 := held9 hk3 hb4
      go_wp2_with fail
      go_ret
      exact ⟨rfl, hk4.2.2.2.2.2.2.2.2.2.1⟩
    · have Gb : Hid (goodB kb nb sb = true) := by show _ = _; simpa using gb
      have Gc : Hid (goodB kc nc sc = false) := by
        show _ = _
        rcases h with h | h | h
        · exact absurd h ga
        · exact absurd h gb
        · exact h
      clear ga gb h
      go_enter Tryd.func4, Tryd.ntmps4
      go_wp2_with fail
      have hk0 := held9s w (.int .i64 ka) (.int .i64 na) (.string sa) (.int .i64 kb) (.int .i64 nb) (.string sb) (.int .i64 kc) (.int .i64 nc) (.string sc) 24
      generalize ((w.alloc (.cells #[.int .i64 ka, .int .i64 na, .string sa] 24)).alloc (.cells #[.int .i64 kb, .int .i64 nb, .string sb] 24)).alloc (.cells #[.int .i64 kc, .int .i64 nc, .string sc] 24) = W at hk0 ⊢
      refine (awake_any _).mono ?_
      rintro e w1 ⟨rfl, hb1⟩
      have hk1 := held9 hk0 hb1
      go_wp2_with fail
      refine (refGood_yes Ga.out _ ha).mono ?_
      rintro e w2 ⟨rfl, hb2⟩
      have hk2 := held9 hk1 hb2
      go_wp2_with fail
      refine (refGood_yes Gb.out _ hb).mono ?_
      rintro e w3 ⟨rfl, hb3⟩
      have hk3 := held9 hk2 hb3
      go_wp2_with fail
      refine (refGood_no Gc.out _ hc).mono ?_
      rintro e w4 ⟨rfl, hb4⟩
      have hk4 := held9 hk3 hb4
      go_wp2_with fail
      refine (awake_any _).mono ?_
      rintro e w5 ⟨rfl, hb5⟩
      have hk5 := held9 hk4 hb5
      go_wp2_with fail
      go_ret
      exact ⟨rfl, hk5.2.2.2.2.2.2.2.2.2.1⟩

set_option maxHeartbeats 4000000 in
theorem lawOrder_good (ka na kb nb kc nc : Int) (sa sb sc : ByteArray) (w : World) (ha : sa.size ≤ maxLen) (hb : sb.size ≤ maxLen) (hc : sc.size ≤ maxLen)
    (ga : goodB ka na sa = true) (gb : goodB kb nb sb = true) (gc : goodB kc nc sc = true) (ab bc ac : Int) (h1 : -1 ≤ ab) (h2 : ab ≤ 1) (E : Hid (ab = 0 ↔ ka = kb ∧ na = nb ∧ sa.toList = sb.toList)) (T : Hid (ab ≤ 0 → bc ≤ 0 → ac ≤ 0 ∧ (ac < 0 ∨ ab = 0 ∧ bc = 0))) (hab : ordV ka na kb nb sa.data.toList sb.data.toList = ab) (hbc : ordV kb nb kc nc sb.data.toList sc.data.toList = bc) (hac : ordV ka na kc nc sa.data.toList sc.data.toList = ac) :
    Calls Tryd.prog 4 #[.agg #[.int .i64 ka, .int .i64 na, .string sa], .agg #[.int .i64 kb, .int .i64 nb, .string sb], .agg #[.int .i64 kc, .int .i64 nc, .string sc]] w fun e w' => e = .returned (.bool true) ∧ Below w.heap.size w w' := by
  have Pa := good_plain ga
  have Pb := good_plain gb
  have Ga := Lib.hid ga
  have Gb := Lib.hid gb
  have Gc := Lib.hid gc
  have cab : ∀ W : World, Calls Tryd.prog 11 #[.agg #[.int .i64 ka, .int .i64 na, .string sa], .agg #[.int .i64 kb, .int .i64 nb, .string sb]] W fun e w' => e = .returned (.int .i64 ab) ∧ Below W.heap.size W w' := fun W => by
    have := compare_any ka na kb nb sa sb W
    rwa [hab] at this
  have cbc : ∀ W : World, Calls Tryd.prog 11 #[.agg #[.int .i64 kb, .int .i64 nb, .string sb], .agg #[.int .i64 kc, .int .i64 nc, .string sc]] W fun e w' => e = .returned (.int .i64 bc) ∧ Below W.heap.size W w' := fun W => by
    have := compare_any kb nb kc nc sb sc W
    rwa [hbc] at this
  have cac : ∀ W : World, Calls Tryd.prog 11 #[.agg #[.int .i64 ka, .int .i64 na, .string sa], .agg #[.int .i64 kc, .int .i64 nc, .string sc]] W fun e w' => e = .returned (.int .i64 ac) ∧ Below W.heap.size W w' := fun W => by
    have := compare_any ka na kc nc sa sc W
    rwa [hac] at this
  have cba : ∀ W : World, Calls Tryd.prog 11 #[.agg #[.int .i64 kb, .int .i64 nb, .string sb], .agg #[.int .i64 ka, .int .i64 na, .string sa]] W fun e w' => e = .returned (.int .i64 (-ab)) ∧ Below W.heap.size W w' := fun W => by
    have := compare_any kb nb ka na sb sa W
    rwa [ordV_swap, hab] at this
  have rab : ∀ W : World, Calls Tryd.prog 12 #[.agg #[.int .i64 ka, .int .i64 na, .string sa], .agg #[.int .i64 kb, .int .i64 nb, .string sb]] W fun e w' => e = .returned (.int .i64 ab) ∧ Below W.heap.size W w' := fun W => by
    have := refCompare_any ka na kb nb sa sb W Pa Pb ha hb
    rwa [hab] at this
  have Hab := Lib.hid cab
  have Hbc := Lib.hid cbc
  have Hac := Lib.hid cac
  have Hba := Lib.hid cba
  have Rab := Lib.hid rab
  clear ga gb gc cab cbc cac cba rab
  go_enter Tryd.func4, Tryd.ntmps4
  go_wp2_with fail
  have hk0 := held9s w (.int .i64 ka) (.int .i64 na) (.string sa) (.int .i64 kb) (.int .i64 nb) (.string sb) (.int .i64 kc) (.int .i64 nc) (.string sc) 24
  generalize ((w.alloc (.cells #[.int .i64 ka, .int .i64 na, .string sa] 24)).alloc (.cells #[.int .i64 kb, .int .i64 nb, .string sb] 24)).alloc (.cells #[.int .i64 kc, .int .i64 nc, .string sc] 24) = W at hk0 ⊢
  refine (awake_any _).mono ?_
  rintro e w1 ⟨rfl, hb1⟩
  have hk1 := held9 hk0 hb1
  go_wp2_with fail
  refine (refGood_yes Ga.out _ ha).mono ?_
  rintro e w2 ⟨rfl, hb2⟩
  have hk2 := held9 hk1 hb2
  go_wp2_with fail
  refine (refGood_yes Gb.out _ hb).mono ?_
  rintro e w3 ⟨rfl, hb3⟩
  have hk3 := held9 hk2 hb3
  go_wp2_with fail
  refine (refGood_yes Gc.out _ hc).mono ?_
  rintro e w4 ⟨rfl, hb4⟩
  have hk4 := held9 hk3 hb4
  go_wp2_with fail

  clear hk0 hk1 hk2 hk3 hb1 hb2 hb3 hb4 W w1 w2 w3
  go_region_held3 (fun w' => w'.cell? ⟨w.heap.size, 0, none⟩ = some (.int .i64 ka) ∧ w'.cell? ⟨w.heap.size, 1, none⟩ = some (.int .i64 na) ∧ w'.cell? ⟨w.heap.size, 2, none⟩ = some (.string sa) ∧ w'.cell? ⟨w.heap.size + 1, 0, none⟩ = some (.int .i64 kb) ∧ w'.cell? ⟨w.heap.size + 1, 1, none⟩ = some (.int .i64 nb) ∧ w'.cell? ⟨w.heap.size + 1, 2, none⟩ = some (.string sb) ∧
      w'.cell? ⟨w.heap.size + 1 + 1, 0, none⟩ = some (.int .i64 kc) ∧ w'.cell? ⟨w.heap.size + 1 + 1, 1, none⟩ = some (.int .i64 nc) ∧ w'.cell? ⟨w.heap.size + 1 + 1, 2, none⟩ = some (.string sc) ∧ Below w.heap.size w w' ∧ w.heap.size + 2 < w'.heap.size)
    (first | assumption | exact held9d (by assumption))
    (first | (go_at_call 11; with_reducible refine (Hab.out _).mono ?_; rintro e w5 ⟨rfl, hb5⟩; have hk5 := held9 (by assumption) hb5) | (go_at_call 11; with_reducible refine (Hbc.out _).mono ?_; rintro e w5 ⟨rfl, hb5⟩; have hk5 := held9 (by assumption) hb5) | (go_at_call 11; with_reducible refine (Hac.out _).mono ?_; rintro e w5 ⟨rfl, hb5⟩; have hk5 := held9 (by assumption) hb5))
  go_wp2_with fail
  with_reducible refine (Rab.out _).mono ?_
  rintro e w6 ⟨rfl, hb6⟩
  have hk6 := held9 (by assumption) hb6
  go_wp2_with fail
  with_reducible refine (Hba.out _).mono ?_
  rintro e w7 ⟨rfl, hb7⟩
  have hk7 := held9 hk6 hb7
  go_wp2_with fail
  all_goals go_ret
  all_goals refine ⟨ret_bool ?_, hk7.2.2.2.2.2.2.2.2.2.1⟩
  all_goals
    have e := E.out
    have t := T.out
    clear E T hk6 hk7 hb6 hb7 Hab Hbc Hac Hba Rab Ga Gb Gc
    by_cases q : sa.toList = sb.toList
  all_goals first
    | rfl
    | exact absurd (by assumption) q
    | exact absurd q (by assumption)
    | (simp only [q, and_true, and_false, iff_false] at e
       simp only [Bool.or_eq_true, decide_eq_true_eq, beq_iff_eq, Bool.not_eq_true', beq_eq_false_iff_ne, Bool.false_eq_true, Bool.not_eq_false'] at *
       omega)

theorem data_eq {a b : ByteArray} (h : a.data.toList = b.data.toList) : a = b := by
  cases a; cases b
  simp only [ByteArray.mk.injEq]
  exact Array.toList_inj.1 h

theorem lawOrder_any (ka na : Int) (sa : ByteArray) (kb nb : Int) (sb : ByteArray) (kc nc : Int) (sc : ByteArray) (w : World)
    (_ : -9223372036854775808 ≤ ka ∧ ka ≤ 9223372036854775807) (_ : -9223372036854775808 ≤ na ∧ na ≤ 9223372036854775807) (ha : sa.size ≤ maxLen)
    (_ : -9223372036854775808 ≤ kb ∧ kb ≤ 9223372036854775807) (_ : -9223372036854775808 ≤ nb ∧ nb ≤ 9223372036854775807) (hb : sb.size ≤ maxLen)
    (_ : -9223372036854775808 ≤ kc ∧ kc ≤ 9223372036854775807) (_ : -9223372036854775808 ≤ nc ∧ nc ≤ 9223372036854775807) (hc : sc.size ≤ maxLen) :
    Calls Tryd.prog 4 #[.agg #[.int .i64 ka, .int .i64 na, .string sa], .agg #[.int .i64 kb, .int .i64 nb, .string sb], .agg #[.int .i64 kc, .int .i64 nc, .string sc]] w fun e w' => e = .returned (.bool true) ∧ Below w.heap.size w w' := by
  by_cases h : goodB ka na sa = false ∨ goodB kb nb sb = false ∨ goodB kc nc sc = false
  · exact lawOrder_bad ka na kb nb kc nc sa sb sc w ha hb hc h
  · have ga : goodB ka na sa = true := by
      cases g : goodB ka na sa with
      | true => rfl
      | false => exact absurd (Or.inl g) h
    have gb : goodB kb nb sb = true := by
      cases g : goodB kb nb sb with
      | true => rfl
      | false => exact absurd (Or.inr (Or.inl g)) h
    have gc : goodB kc nc sc = true := by
      cases g : goodB kc nc sc with
      | true => rfl
      | false => exact absurd (Or.inr (Or.inr g)) h
    have c1 := ordV_cases ka na kb nb sa.data.toList sb.data.toList
    refine lawOrder_good ka na kb nb kc nc sa sb sc w ha hb hc ga gb gc _ _ _ (by omega) (by omega) ?_ ?_ rfl rfl rfl
    · show _ ↔ _
      rw [ByteArray.toList_eq, ByteArray.toList_eq]
      constructor
      · exact fun h0 => ordV_zero (good_plain ga) (good_plain gb) h0
      · rintro ⟨rfl, rfl, h3⟩
        rw [h3]
        exact ordV_refl _ _ _
    · show _ → _
      intro k1 k2
      have c2 := ordV_cases kb nb kc nc sb.data.toList sc.data.toList
      rcases c1 with c1 | c1 | c1
      · rcases c2 with c2 | c2 | c2
        · have := ordV_trans c1 c2
          omega
        · obtain ⟨rfl, rfl, h3⟩ := ordV_zero (good_plain gb) (good_plain gc) c2
          rw [← h3] at c2 ⊢
          omega
        · omega
      · obtain ⟨rfl, rfl, h3⟩ := ordV_zero (good_plain ga) (good_plain gb) c1
        rw [← h3] at c2 k2 ⊢
        rcases c2 with c2 | c2 | c2
        · omega
        · have c3 := ordV_refl ka na sa.data.toList
          omega
        · omega
      · omega
end Go.Proofs.YtjamocfpfibhfaaDoor
