/-
  WHAT IS PROVED: the walk of the law CellBack: it returns true for every two ints.
-/
import Derived.Test.YtjamocfpfibhfaaDoorAwake
import Derived.Deep.RegionHeld3
import Derived.Deep.DeepCutAuto
namespace Go.Proofs.YtjamocfpfibhfaaDoor
open Go.RowKit

/-- Two structs of three cells, known in a world that has only grown. -/
theorem held2 {B A C : Nat} {w W w1 : World} {a0 a1 a2 c0 c1 c2 : Value}
    (h : W.cell? ⟨A, 0, none⟩ = some a0 ∧ W.cell? ⟨A, 1, none⟩ = some a1 ∧ W.cell? ⟨A, 2, none⟩ = some a2 ∧ W.cell? ⟨C, 0, none⟩ = some c0 ∧ W.cell? ⟨C, 1, none⟩ = some c1 ∧ W.cell? ⟨C, 2, none⟩ = some c2 ∧ Below B w W ∧ B ≤ W.heap.size ∧ A < W.heap.size ∧ C < W.heap.size)
    (hb : Below W.heap.size W w1) :
    w1.cell? ⟨A, 0, none⟩ = some a0 ∧ w1.cell? ⟨A, 1, none⟩ = some a1 ∧ w1.cell? ⟨A, 2, none⟩ = some a2 ∧ w1.cell? ⟨C, 0, none⟩ = some c0 ∧ w1.cell? ⟨C, 1, none⟩ = some c1 ∧ w1.cell? ⟨C, 2, none⟩ = some c2 ∧ Below B w w1 ∧ B ≤ w1.heap.size ∧ A < w1.heap.size ∧ C < w1.heap.size := by
  obtain ⟨h0, h1, h2, k0, k1, k2, hB, hz, hA, hC⟩ := h
  have hs := hb.size
  exact ⟨((bcell hb).1 _ _ hA).trans h0, ((bcell hb).1 _ _ hA).trans h1, ((bcell hb).1 _ _ hA).trans h2, ((bcell hb).1 _ _ hC).trans k0, ((bcell hb).1 _ _ hC).trans k1, ((bcell hb).1 _ _ hC).trans k2,
    hB.trans (hb.mono hz), by omega, by omega, by omega⟩
theorem held2d {B A C : Nat} {w W : World} {a0 a1 a2 c0 c1 c2 : Value}
    (h : W.cell? ⟨A, 0, none⟩ = some a0 ∧ W.cell? ⟨A, 1, none⟩ = some a1 ∧ W.cell? ⟨A, 2, none⟩ = some a2 ∧ W.cell? ⟨C, 0, none⟩ = some c0 ∧ W.cell? ⟨C, 1, none⟩ = some c1 ∧ W.cell? ⟨C, 2, none⟩ = some c2 ∧ Below B w W ∧ B ≤ W.heap.size ∧ A < W.heap.size ∧ C < W.heap.size) :
    W.drew.cell? ⟨A, 0, none⟩ = some a0 ∧ W.drew.cell? ⟨A, 1, none⟩ = some a1 ∧ W.drew.cell? ⟨A, 2, none⟩ = some a2 ∧ W.drew.cell? ⟨C, 0, none⟩ = some c0 ∧ W.drew.cell? ⟨C, 1, none⟩ = some c1 ∧ W.drew.cell? ⟨C, 2, none⟩ = some c2 ∧ Below B w W.drew ∧ B ≤ W.drew.heap.size ∧ A < W.drew.heap.size ∧ C < W.drew.heap.size := by
  obtain ⟨h0, h1, h2, k0, k1, k2, hB, hz, hA, hC⟩ := h
  exact ⟨by simpa using h0, by simpa using h1, by simpa using h2, by simpa using k0, by simpa using k1, by simpa using k2, hB.drew, hz, hA, hC⟩

theorem held2s {B A C G o : Nat} {v : Value} {w W : World} {a0 a1 a2 c0 c1 c2 : Value}
    (h : W.cell? ⟨A, 0, none⟩ = some a0 ∧ W.cell? ⟨A, 1, none⟩ = some a1 ∧ W.cell? ⟨A, 2, none⟩ = some a2 ∧ W.cell? ⟨C, 0, none⟩ = some c0 ∧ W.cell? ⟨C, 1, none⟩ = some c1 ∧ W.cell? ⟨C, 2, none⟩ = some c2 ∧ Below B w W ∧ B ≤ W.heap.size ∧ A < W.heap.size ∧ C < W.heap.size)
    (hA : A < G) (hC : C < G) (hB : B ≤ G) :
    (W.setCell ⟨G, o, none⟩ v).cell? ⟨A, 0, none⟩ = some a0 ∧ (W.setCell ⟨G, o, none⟩ v).cell? ⟨A, 1, none⟩ = some a1 ∧ (W.setCell ⟨G, o, none⟩ v).cell? ⟨A, 2, none⟩ = some a2 ∧ (W.setCell ⟨G, o, none⟩ v).cell? ⟨C, 0, none⟩ = some c0 ∧ (W.setCell ⟨G, o, none⟩ v).cell? ⟨C, 1, none⟩ = some c1 ∧ (W.setCell ⟨G, o, none⟩ v).cell? ⟨C, 2, none⟩ = some c2 ∧
      Below B w (W.setCell ⟨G, o, none⟩ v) ∧ B ≤ (W.setCell ⟨G, o, none⟩ v).heap.size ∧ A < (W.setCell ⟨G, o, none⟩ v).heap.size ∧ C < (W.setCell ⟨G, o, none⟩ v).heap.size := by
  obtain ⟨h0, h1, h2, k0, k1, k2, hb, hz, hA', hC'⟩ := h
  have hz' : (W.setCell ⟨G, o, none⟩ v).heap.size = W.heap.size := by simp [World.setCell]
  have hc : ∀ b i, b < G → (W.setCell ⟨G, o, none⟩ v).cell? ⟨b, i, none⟩ = W.cell? ⟨b, i, none⟩ := fun b i hb =>
    ((Below.refl G W).setCell (p := ⟨G, o, none⟩) (Nat.le_refl _) v).cell (p := ⟨b, i, none⟩) hb
  exact ⟨(hc _ _ hA).trans h0, (hc _ _ hA).trans h1, (hc _ _ hA).trans h2, (hc _ _ hC).trans k0, (hc _ _ hC).trans k1, (hc _ _ hC).trans k2, hb.setCell (p := ⟨G, o, none⟩) hB v, by omega, by omega, by omega⟩

theorem wrap_back (x y : Int) : IntKind.u64.wrap (IntKind.u64.wrap (x + y) - IntKind.u64.wrap x) = IntKind.u64.wrap y := by
  have hb : IntKind.u64.bits = 64 := rfl
  have hs : IntKind.u64.signed = false := rfl
  have h64 : (2 : Int) ^ 64 = 18446744073709551616 := by decide
  simp only [IntKind.wrap, hb, hs, Bool.false_and, Bool.false_eq_true, if_false, h64]
  omega

theorem sign_back (x y : Int) : (decide (0 ≤ y) == decide (x ≤ x + y)) = true := by
  rw [beq_iff_eq, Bool.eq_iff_iff, decide_eq_true_eq, decide_eq_true_eq]
  omega

theorem sum_zero (x : Int) (sa sb : ByteArray) (w : World) (h0 : -9223372036854775808 ≤ x) (h1 : x ≤ 9223372036854775807) :
    Calls Tryd.prog 14 #[.agg #[.int .i64 1, .int .i64 x, .string sa], .agg #[.int .i64 1, .int .i64 0, .string sb]] w fun e w' => e = .returned (.tuple #[.agg #[.int .i64 1, .int .i64 x, .string ⟨#[]⟩], .int .i64 0]) ∧ Below w.heap.size w w' := by
  have := sum_ok x 0 sa sb w (by omega) (by omega)
  rwa [Int.add_zero] at this

set_option maxHeartbeats 2000000 in
theorem lawBack_ok (x y : Int) (w : World) (hx0 : -9223372036854775808 ≤ x) (hx1 : x ≤ 9223372036854775807) 
    (h0 : -9223372036854775808 ≤ x + y) (h1 : x + y ≤ 9223372036854775807) :
    Calls Tryd.prog 5 #[.int .i64 x, .int .i64 y] w fun e w' => e = .returned (.bool true) ∧ Below w.heap.size w w' := by
  go_enter Tryd.func5, Tryd.ntmps5
  go_wp2_with fail
  refine (awake_any _).mono ?_
  rintro e w1 ⟨rfl, hb1⟩
  go_wp2_with fail
  refine (refInt_any _ _).mono ?_
  rintro e w2 ⟨rfl, hb2⟩
  go_wp2_with fail
  refine (refInt_any _ _).mono ?_
  rintro e w3 ⟨rfl, hb3⟩
  go_wp2_with fail
  refine (sum_ok _ _ _ _ _ h0 h1).mono ?_
  rintro e w4 ⟨rfl, hb4⟩
  unfold sumV
  obtain ⟨hc4, hf4⟩ := bcell hb4
  have hz4 : w3.heap.size + 1 + 1 ≤ w4.heap.size := by simpa using hb4.size
  have hlow : w.heap.size ≤ w3.heap.size := Nat.le_trans hb1.size (Nat.le_trans hb2.size hb3.size)
  have hS : (w4.alloc (.cells #[.int .i64 1, .int .i64 (x + y), .string ⟨#[]⟩] 24)).cell? ⟨w3.heap.size, 0, none⟩ = some (.int .i64 1) ∧ (w4.alloc (.cells #[.int .i64 1, .int .i64 (x + y), .string ⟨#[]⟩] 24)).cell? ⟨w3.heap.size, 1, none⟩ = some (.int .i64 x) ∧
      (w4.alloc (.cells #[.int .i64 1, .int .i64 (x + y), .string ⟨#[]⟩] 24)).cell? ⟨w3.heap.size, 2, none⟩ = some (.string ⟨#[]⟩) ∧ (w4.alloc (.cells #[.int .i64 1, .int .i64 (x + y), .string ⟨#[]⟩] 24)).cell? ⟨w4.heap.size, 0, none⟩ = some (.int .i64 1) ∧
      (w4.alloc (.cells #[.int .i64 1, .int .i64 (x + y), .string ⟨#[]⟩] 24)).cell? ⟨w4.heap.size, 1, none⟩ = some (.int .i64 (x + y)) ∧ (w4.alloc (.cells #[.int .i64 1, .int .i64 (x + y), .string ⟨#[]⟩] 24)).cell? ⟨w4.heap.size, 2, none⟩ = some (.string ⟨#[]⟩) ∧
      Below w.heap.size w (w4.alloc (.cells #[.int .i64 1, .int .i64 (x + y), .string ⟨#[]⟩] 24)) ∧ w.heap.size ≤ (w4.alloc (.cells #[.int .i64 1, .int .i64 (x + y), .string ⟨#[]⟩] 24)).heap.size ∧
      w3.heap.size < (w4.alloc (.cells #[.int .i64 1, .int .i64 (x + y), .string ⟨#[]⟩] 24)).heap.size ∧ w4.heap.size < (w4.alloc (.cells #[.int .i64 1, .int .i64 (x + y), .string ⟨#[]⟩] 24)).heap.size := by
    have hlt : w3.heap.size < w4.heap.size := by omega
    refine ⟨?_, ?_, ?_, by go_simp, by go_simp, by go_simp, ba (bt (ba (ba (bt (bt hb1 hb2) hb3) _) _) hb4) _, by simp; omega, by simp; omega, by simp⟩
    all_goals
      rw [(bcell (b0 w4 _)).1 _ _ hlt, hc4 _ _ (by simp; omega)]
      go_simp
  go_wp2_with fail
  generalize w4.alloc (.cells #[.int .i64 1, .int .i64 (x + y), .string ⟨#[]⟩] 24) = W0 at hS ⊢
  generalize w3.heap.size = A at hS ⊢
  generalize w4.heap.size = C at hS ⊢
  clear hc4 hf4 hz4 hlow hb1 hb2 hb3 hb4 w1 w2 w3 w4
  go_region_held3 (fun w' => w'.cell? ⟨A, 0, none⟩ = some (.int .i64 1) ∧ w'.cell? ⟨A, 1, none⟩ = some (.int .i64 x) ∧ w'.cell? ⟨A, 2, none⟩ = some (.string ⟨#[]⟩) ∧
      w'.cell? ⟨C, 0, none⟩ = some (.int .i64 1) ∧ w'.cell? ⟨C, 1, none⟩ = some (.int .i64 (x + y)) ∧ w'.cell? ⟨C, 2, none⟩ = some (.string ⟨#[]⟩) ∧
      Below w.heap.size w w' ∧ w.heap.size ≤ w'.heap.size ∧ A < w'.heap.size ∧ C < w'.heap.size)
    (first | assumption | exact held2d (by assumption) | exact held2 (by assumption) (b0 _ _) | exact held2s (held2s (held2s (by assumption) (by omega) (by omega) (by omega)) (by omega) (by omega) (by omega)) (by omega) (by omega) (by omega))
    (first | (go_at_call 13; refine (refInt_any _ _).mono ?_; rintro e w4 ⟨rfl, hb4⟩; have hk4 := held2 (by assumption) hb4; have hz4 := hb4.size; (try simp at hz4)) |
      (go_at_call 14; refine (sum_zero _ _ _ _ hx0 hx1).mono ?_; rintro e w5 ⟨rfl, hb5⟩; have hk5 := held2 (by assumption) hb5; (first | (have hq := bt hb4 hb5; obtain ⟨hcB, hfB⟩ := bcell hq; have hzB := hq.size) | (obtain ⟨hcB, hfB⟩ := bcell hb5; have hzB := hb5.size)); (try simp at hzB)))
  all_goals
    have hu : IntKind.u64.wrap (IntKind.u64.wrap (x + y) - IntKind.u64.wrap x) = IntKind.u64.wrap y := wrap_back x y
    go_wp2_with fail
    go_ret
    exact ⟨ret_bool (sign_back x y), by first | assumption | exact (by assumption : _ ∧ _ ∧ _ ∧ _ ∧ _ ∧ _ ∧ Below w.heap.size w _ ∧ _ ∧ _ ∧ _).2.2.2.2.2.2.1⟩

set_option maxHeartbeats 2000000 in
theorem lawBack_over (x y : Int) (w : World) (hx0 : -9223372036854775808 ≤ x) (hx1 : x ≤ 9223372036854775807) (hy0 : -9223372036854775808 ≤ y) (hy1 : y ≤ 9223372036854775807)
    (h : (x < 0 ∧ y < 0 ∧ x + y < -9223372036854775808) ∨ (0 ≤ x ∧ 0 ≤ y ∧ 9223372036854775807 < x + y)) :
    Calls Tryd.prog 5 #[.int .i64 x, .int .i64 y] w fun e w' => e = .returned (.bool true) ∧ Below w.heap.size w w' := by
  go_enter Tryd.func5, Tryd.ntmps5
  go_wp2_with fail
  refine (awake_any _).mono ?_
  rintro e w1 ⟨rfl, hb1⟩
  go_wp2_with fail
  refine (refInt_any _ _).mono ?_
  rintro e w2 ⟨rfl, hb2⟩
  go_wp2_with fail
  refine (refInt_any _ _).mono ?_
  rintro e w3 ⟨rfl, hb3⟩
  go_wp2_with fail
  refine (sum_over _ _ _ _ _ hx0 hx1 hy0 hy1 (by omega)).mono ?_
  rintro e w4 ⟨rfl, hb4⟩
  unfold sumV
  obtain ⟨hc4, hf4⟩ := bcell hb4
  have hz4 : w3.heap.size + 1 + 1 ≤ w4.heap.size := by simpa using hb4.size
  have hlow : w.heap.size ≤ w3.heap.size := Nat.le_trans hb1.size (Nat.le_trans hb2.size hb3.size)
  have hS : (w4.alloc (.cells #[.int .i64 0, .int .i64 0, .string ⟨#[]⟩] 24)).cell? ⟨w3.heap.size, 0, none⟩ = some (.int .i64 1) ∧ (w4.alloc (.cells #[.int .i64 0, .int .i64 0, .string ⟨#[]⟩] 24)).cell? ⟨w3.heap.size, 1, none⟩ = some (.int .i64 x) ∧
      (w4.alloc (.cells #[.int .i64 0, .int .i64 0, .string ⟨#[]⟩] 24)).cell? ⟨w3.heap.size, 2, none⟩ = some (.string ⟨#[]⟩) ∧ (w4.alloc (.cells #[.int .i64 0, .int .i64 0, .string ⟨#[]⟩] 24)).cell? ⟨w4.heap.size, 0, none⟩ = some (.int .i64 0) ∧
      (w4.alloc (.cells #[.int .i64 0, .int .i64 0, .string ⟨#[]⟩] 24)).cell? ⟨w4.heap.size, 1, none⟩ = some (.int .i64 0) ∧ (w4.alloc (.cells #[.int .i64 0, .int .i64 0, .string ⟨#[]⟩] 24)).cell? ⟨w4.heap.size, 2, none⟩ = some (.string ⟨#[]⟩) ∧
      Below w.heap.size w (w4.alloc (.cells #[.int .i64 0, .int .i64 0, .string ⟨#[]⟩] 24)) ∧ w.heap.size ≤ (w4.alloc (.cells #[.int .i64 0, .int .i64 0, .string ⟨#[]⟩] 24)).heap.size ∧
      w3.heap.size < (w4.alloc (.cells #[.int .i64 0, .int .i64 0, .string ⟨#[]⟩] 24)).heap.size ∧ w4.heap.size < (w4.alloc (.cells #[.int .i64 0, .int .i64 0, .string ⟨#[]⟩] 24)).heap.size := by
    have hlt : w3.heap.size < w4.heap.size := by omega
    refine ⟨?_, ?_, ?_, by go_simp, by go_simp, by go_simp, ba (bt (ba (ba (bt (bt hb1 hb2) hb3) _) _) hb4) _, by simp; omega, by simp; omega, by simp⟩
    all_goals
      rw [(bcell (b0 w4 _)).1 _ _ hlt, hc4 _ _ (by simp; omega)]
      go_simp
  go_wp2_with fail
  generalize w4.alloc (.cells #[.int .i64 0, .int .i64 0, .string ⟨#[]⟩] 24) = W0 at hS ⊢
  generalize w3.heap.size = A at hS ⊢
  generalize w4.heap.size = C at hS ⊢
  clear hc4 hf4 hz4 hlow hb1 hb2 hb3 hb4 w1 w2 w3 w4
  go_region_held3 (fun w' => w'.cell? ⟨A, 0, none⟩ = some (.int .i64 1) ∧ w'.cell? ⟨A, 1, none⟩ = some (.int .i64 x) ∧ w'.cell? ⟨A, 2, none⟩ = some (.string ⟨#[]⟩) ∧
      w'.cell? ⟨C, 0, none⟩ = some (.int .i64 0) ∧ w'.cell? ⟨C, 1, none⟩ = some (.int .i64 0) ∧ w'.cell? ⟨C, 2, none⟩ = some (.string ⟨#[]⟩) ∧
      Below w.heap.size w w' ∧ w.heap.size ≤ w'.heap.size ∧ A < w'.heap.size ∧ C < w'.heap.size)
    (first | assumption | exact held2d (by assumption) | exact held2 (by assumption) (b0 _ _) | exact held2s (held2s (held2s (by assumption) (by omega) (by omega) (by omega)) (by omega) (by omega) (by omega)) (by omega) (by omega) (by omega))
    (first | (go_at_call 13; refine (refInt_any _ _).mono ?_; rintro e w4 ⟨rfl, hb4⟩; have hk4 := held2 (by assumption) hb4; have hz4 := hb4.size; (try simp at hz4)) |
      (go_at_call 14; refine (sum_zero _ _ _ _ hx0 hx1).mono ?_; rintro e w5 ⟨rfl, hb5⟩; have hk5 := held2 (by assumption) hb5; (first | (have hq := bt hb4 hb5; obtain ⟨hcB, hfB⟩ := bcell hq; have hzB := hq.size) | (obtain ⟨hcB, hfB⟩ := bcell hb5; have hzB := hb5.size)); (try simp at hzB)))
  all_goals
    rcases h with ⟨hx, hy, _⟩ | ⟨hx, hy, _⟩
    all_goals
      go_wp2_with fail
      go_ret
      exact ⟨rfl, by first | assumption | exact (by assumption : _ ∧ _ ∧ _ ∧ _ ∧ _ ∧ _ ∧ Below w.heap.size w _ ∧ _ ∧ _ ∧ _).2.2.2.2.2.2.1⟩

theorem lawBack_any (x y : Int) (w : World) (hx : -9223372036854775808 ≤ x ∧ x ≤ 9223372036854775807) (hy : -9223372036854775808 ≤ y ∧ y ≤ 9223372036854775807) :
    Calls Tryd.prog 5 #[.int .i64 x, .int .i64 y] w fun e w' => e = .returned (.bool true) ∧ Below w.heap.size w w' := by
  by_cases h : -9223372036854775808 ≤ x + y ∧ x + y ≤ 9223372036854775807
  · exact lawBack_ok x y w hx.1 hx.2 h.1 h.2
  · exact lawBack_over x y w hx.1 hx.2 hy.1 hy.2 (by omega)

end Go.Proofs.YtjamocfpfibhfaaDoor
