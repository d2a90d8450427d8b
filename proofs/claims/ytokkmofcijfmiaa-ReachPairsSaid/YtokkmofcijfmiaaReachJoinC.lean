/-
  WHAT IS PROVED: reach.Join makes the reach of what one of two has, or tells that it has too many prefixes (JoinC). Conditions: those typed in the definition.
-/
import Derived.Test.YtokkmofcijfmiaaGQ7
namespace Go.Proofs.Ytokkmofcijfmiaa
open Go.RowKit

set_option maxRecDepth 100000 in
set_option maxHeartbeats 2000000 in
theorem joinC_any : JoinC := by
  intro A A2 n c m d a b w R hL ha hr hb hr2 g1 g2 hR
  have n6 : n ≤ 6 := by rw [← ha]; exact goodR_six g1
  have m6 : m ≤ 6 := by rw [← hb]; exact goodR_six g2
  have HA := Lib.hid ha
  have HB := Lib.hid hb
  have S0 : Hid (Sz 1000 (a ++ b)) := fun x hx => Nat.le_trans (sz_app (goodR_sizes g1) (goodR_sizes g2) x hx) (by omega)
  have HP : Hid ((dL (a ++ b)).all preB = true) := by
    show _ = _
    rw [show dL (a ++ b) = dL a ++ dL b from List.map_append, List.all_append, Bool.and_eq_true, List.all_eq_true, List.all_eq_true]
    exact ⟨fun x hx => goodR_pre g1 hx, fun x hx => goodR_pre g2 hx⟩
  have HR : Hid (IsMade (· ∈ dL (a ++ b)) R) := by
    show IsMade _ _
    rw [show dL (a ++ b) = dL a ++ dL b from List.map_append]
    exact hR
  have HL := Lib.hid hL
  clear ha hb hR g1 g2 hL
  suffices hh : Calls Try.prog 14 #[.slice A n c, .slice A2 m d] w fun e w' => ((R.length ≤ 6 → Ans R 0 e w') ∧ (¬ R.length ≤ 6 → e = .returned (.tuple #[.slice none 0 0, .int .i64 3]))) ∧ Below w.heap.size w w' by
    refine hh.mono fun e w' h => ⟨?_, h.2⟩
    by_cases h6 : R.length ≤ 6
    · rw [if_pos h6]; exact h.1.1 h6
    · rw [if_neg h6]; exact h.1.2 h6
  have q0 : (w.alloc (.cells #[.slice A n c, .slice A2 m d] 25)).cell? ⟨w.heap.size, 0, none⟩ = some (.slice A n c) := by go_simp
  have q1 : (w.alloc (.cells #[.slice A n c, .slice A2 m d] 25)).cell? ⟨w.heap.size, 1, none⟩ = some (.slice A2 m d) := by go_simp
  have hba := b0 w (.cells #[.slice A n c, .slice A2 m d] 25)
  go_enter Try.func14, Try.ntmps14
  go_wp2_with fail
  refine (concatR_any w.heap.size A A2 n c m d a b _ (by simp) q0 q1 HA.out ((hr.keep hba (Nat.le_refl _)).more hba.size) HB.out ((hr2.keep hba (Nat.le_refl _)).more hba.size) (by omega) (by omega)).mono ?_
  rintro e w5 ⟨⟨A5, c5, rfl, hO5⟩, hb5⟩
  have hB5 := hba.trans (hb5.mono hba.size)
  clear q0 q1 hba hb5
  go_wp2_with fail
  by_cases h6 : R.length ≤ 6
  · have H6 := Lib.hid h6
    refine ((ofC A5 (n + m) c5 (a ++ b) w5 R (HL.out.keep hB5) hO5.len hO5.rd (by omega) S0.out HR.out).mono fun e w' h => (show Ans R 0 e w' ∧ Below w5.heap.size w5 w' from ⟨by have h1 := h.1; rw [if_pos HP.out, if_pos H6.out] at h1; exact h1, h.2⟩)).mono ?_
    rintro e w6 ⟨⟨A6, c6, r6, rfl, hr6, hd6⟩, hb6⟩
    have HD6 := Lib.hid hd6
    clear hd6 h6
    generalize hlr : R.length = nR at hr6 ⊢
    have HLR := Lib.hid hlr
    clear hlr
    go_wp2_with fail
    go_ret2
    refine ⟨⟨fun _ => ⟨A6, c6, r6, ?_, hr6, HD6.out⟩, fun h => absurd H6.out h⟩, bt hB5 hb6⟩
    rw [HLR.out]
    rfl
  · have H6 := Lib.hid h6
    refine ((ofC A5 (n + m) c5 (a ++ b) w5 R (HL.out.keep hB5) hO5.len hO5.rd (by omega) S0.out HR.out).mono fun e w' h => (show e = .returned (.tuple #[.slice none 0 0, .int .i64 3]) ∧ Below w5.heap.size w5 w' from ⟨by have h1 := h.1; rw [if_pos HP.out, if_neg H6.out] at h1; exact h1, h.2⟩)).mono ?_
    rintro e w6 ⟨rfl, hb6⟩
    clear h6
    go_wp2_with fail
    go_ret2
    exact ⟨⟨fun h => absurd h H6.out, fun _ => rfl⟩, bt hB5 hb6⟩
end Go.Proofs.Ytokkmofcijfmiaa
