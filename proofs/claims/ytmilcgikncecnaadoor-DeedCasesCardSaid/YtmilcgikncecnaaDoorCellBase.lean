/-
  WHAT IS PROVED: contracts of small functions of the packages cell and spinneyref01 (an int's value, the sum, whether a byte stands for itself), each for every argument. Conditions: none but those typed in each theorem.
-/
import Derived.Test.YtmilcgikncecnaaDoorRows
import Derived.Test.YtmilcgikncecnaaDoorQuoteMath
import Derived.WalkKit
import Derived.WalkSpells
import Derived.WalkLawsBesides
import Derived.Deep.QuietTactic
import Derived.BigQuiet
import Derived.Lib.Hide
namespace Go.Proofs.YtmilcgikncecnaaDoor
open Go.RowKit

/-- Old blocks read as before. -/
theorem bcell {W w1 : World} (hb : Below W.heap.size W w1) : (∀ b o, b < W.heap.size → w1.cell? ⟨b, o, none⟩ = W.cell? ⟨b, o, none⟩) ∧ (∀ b o, b < W.heap.size → w1.frozen? ⟨b, o, none⟩ = W.frozen? ⟨b, o, none⟩) :=
  ⟨fun b o h => hb.cell (p := ⟨b, o, none⟩) h, fun b o h => hb.frozen (p := ⟨b, o, none⟩) h⟩

theorem bt {w a b : World} (h : Below w.heap.size w a) (k : Below a.heap.size a b) : Below w.heap.size w b := h.trans (k.mono h.size)
theorem ba {w a : World} (h : Below w.heap.size w a) (o : Obj) : Below w.heap.size w (a.alloc o) := h.alloc h.size o
theorem b0 (w : World) (o : Obj) : Below w.heap.size w (w.alloc o) := (Below.refl _ _).alloc (Nat.le_refl _) o

theorem below_up {w wr : World} {o : Obj} (h : Below (w.heap.size + 1) (w.alloc o) wr) : Below w.heap.size w wr := (b0 w o).trans (h.mono (by omega))
theorem below3 {w W : World} (h : Below w.heap.size w W) (v0 v1 v2 : Value) : Below w.heap.size w (((W.setCell ⟨w.heap.size, 0, none⟩ v0).setCell ⟨w.heap.size, 1, none⟩ v1).setCell ⟨w.heap.size, 2, none⟩ v2) :=
  ((h.setCell (p := ⟨w.heap.size, 0, none⟩) (Nat.le_refl _) v0).setCell (p := ⟨w.heap.size, 1, none⟩) (Nat.le_refl _) v1).setCell (p := ⟨w.heap.size, 2, none⟩) (Nat.le_refl _) v2
theorem res_cells {w wr : World} {v0 v1 v2 : Value} {t : TypeId} (h : Below (w.heap.size + 1) (w.alloc (.cells #[v0, v1, v2] t)) wr) :
    wr.cell? ⟨w.heap.size, 0, none⟩ = some v0 ∧ wr.cell? ⟨w.heap.size, 1, none⟩ = some v1 ∧ wr.cell? ⟨w.heap.size, 2, none⟩ = some v2 ∧ wr.frozen? ⟨w.heap.size, 0, none⟩ = false ∧ wr.frozen? ⟨w.heap.size, 1, none⟩ = false ∧ wr.frozen? ⟨w.heap.size, 2, none⟩ = false := by
  refine ⟨?_, ?_, ?_, ?_, ?_, ?_⟩
  · rw [h.cell (p := ⟨w.heap.size, 0, none⟩) (by simp)]; go_simp
  · rw [h.cell (p := ⟨w.heap.size, 1, none⟩) (by simp)]; go_simp
  · rw [h.cell (p := ⟨w.heap.size, 2, none⟩) (by simp)]; go_simp
  · rw [h.frozen (p := ⟨w.heap.size, 0, none⟩) (by simp)]; go_simp
  · rw [h.frozen (p := ⟨w.heap.size, 1, none⟩) (by simp)]; go_simp
  · rw [h.frozen (p := ⟨w.heap.size, 2, none⟩) (by simp)]; go_simp


set_option maxHeartbeats 400000 in
theorem refInt_any (n : Int) (w : World) :
    Calls Tryd.prog 21 #[.int .i64 n] w fun e w' => e = .returned (.agg #[.int .i64 1, .int .i64 n, .string ⟨#[]⟩]) ∧ Below w.heap.size w w' := by
  go_enter Tryd.func21, Tryd.ntmps21
  go_wp2
  exact bodyPost_ret (v := .agg #[.int .i64 1, .int .i64 n, .string ⟨#[]⟩]) (by simp [results, Tryd.results21, go_sem]) rfl ⟨rfl, (Below.refl _ _).alloc (Nat.le_refl _) _⟩

theorem ret_bool {a b : Bool} (h : a = b) : Ending.returned (.bool a) = .returned (.bool b) := by rw [h]

set_option maxHeartbeats 400000 in
theorem plain_any (c : Int) (w : World) :
    Calls Tryd.prog 51 #[.int .u8 c] w fun e w' => e = .returned (.bool (plainB c)) ∧ w = w' := by
  go_enter Tryd.func51, Tryd.ntmps51
  go_wp2
  all_goals go_ret
  all_goals exact ⟨ret_bool (by unfold plainB; rw [Bool.eq_iff_iff]; simp; try omega), rfl⟩

set_option maxHeartbeats 400000 in
theorem refPlain_any (c : Int) (w : World) :
    Calls Tryd.prog 47 #[.int .u8 c] w fun e w' => e = .returned (.bool (plainB c)) ∧ w = w' := by
  go_enter Tryd.func47, Tryd.ntmps47
  go_wp2
  all_goals go_ret
  all_goals exact ⟨ret_bool (by unfold plainB; rw [Bool.eq_iff_iff]; simp; try omega), rfl⟩

/-- The pair that Sum answers. -/
def sumV (k n e : Int) : Value := .tuple #[.agg #[.int .i64 k, .int .i64 n, .string ⟨#[]⟩], .int .i64 e]

set_option maxHeartbeats 1000000 in
theorem sum_kind (ka na kb nb : Int) (sa sb : ByteArray) (w : World) (h : ka ≠ 1 ∨ kb ≠ 1) :
    Calls Tryd.prog 36 #[.agg #[.int .i64 ka, .int .i64 na, .string sa], .agg #[.int .i64 kb, .int .i64 nb, .string sb]] w fun e w' => e = .returned (sumV 0 0 13) ∧ Below w.heap.size w w' := by
  by_cases ha : ka = 1
  · subst ha
    have hb : kb ≠ 1 := by omega
    have hb1 : (kb != 1) = true := by simpa using hb
    clear h hb
    go_enter Tryd.func36, Tryd.ntmps36
    go_wp2
    exact bodyPost_ret (v := sumV 0 0 13) (by simp [results, Tryd.results36, go_sem, sumV]) rfl ⟨rfl, by repeat (first | exact Below.refl _ _ | (refine Below.alloc ?_ (by simp <;> omega) _) | (refine Below.setCell ?_ (by simp <;> omega) _))⟩
  · have ha1 : (ka != 1) = true := by simpa using ha
    clear h ha
    go_enter Tryd.func36, Tryd.ntmps36
    go_wp2
    exact bodyPost_ret (v := sumV 0 0 13) (by simp [results, Tryd.results36, go_sem, sumV]) rfl ⟨rfl, by repeat (first | exact Below.refl _ _ | (refine Below.alloc ?_ (by simp <;> omega) _) | (refine Below.setCell ?_ (by simp <;> omega) _))⟩

set_option maxHeartbeats 1000000 in
theorem sum_ok (na nb : Int) (sa sb : ByteArray) (w : World) (h0 : -9223372036854775808 ≤ na + nb) (h1 : na + nb ≤ 9223372036854775807) :
    Calls Tryd.prog 36 #[.agg #[.int .i64 1, .int .i64 na, .string sa], .agg #[.int .i64 1, .int .i64 nb, .string sb]] w fun e w' => e = .returned (sumV 1 (na + nb) 0) ∧ Below w.heap.size w w' := by
  by_cases hn : nb < 0
  · have hc : decide (na + nb < na) = true := by simp; omega
    go_enter Tryd.func36, Tryd.ntmps36
    go_wp2
    exact bodyPost_ret (v := sumV 1 (na + nb) 0) (by simp [results, Tryd.results36, go_sem, sumV]) rfl ⟨rfl, by repeat (first | exact Below.refl _ _ | (refine Below.alloc ?_ (by simp <;> omega) _) | (refine Below.setCell ?_ (by simp <;> omega) _))⟩
  · have hc : decide (na + nb < na) = false := by simp; omega
    go_enter Tryd.func36, Tryd.ntmps36
    go_wp2
    exact bodyPost_ret (v := sumV 1 (na + nb) 0) (by simp [results, Tryd.results36, go_sem, sumV]) rfl ⟨rfl, by repeat (first | exact Below.refl _ _ | (refine Below.alloc ?_ (by simp <;> omega) _) | (refine Below.setCell ?_ (by simp <;> omega) _))⟩

set_option maxHeartbeats 1000000 in
theorem sum_over (na nb : Int) (sa sb : ByteArray) (w : World) (ha0 : -9223372036854775808 ≤ na) (ha1 : na ≤ 9223372036854775807) (hb0 : -9223372036854775808 ≤ nb) (hb1 : nb ≤ 9223372036854775807)
    (h : na + nb < -9223372036854775808 ∨ 9223372036854775807 < na + nb) :
    Calls Tryd.prog 36 #[.agg #[.int .i64 1, .int .i64 na, .string sa], .agg #[.int .i64 1, .int .i64 nb, .string sb]] w fun e w' => e = .returned (sumV 0 0 12) ∧ Below w.heap.size w w' := by
  rcases h with h | h
  · have hw : wrap64 (na + nb) = na + nb + 18446744073709551616 := by unfold wrap64; omega
    have hx : decide (wrap64 (na + nb) < na) = false := by rw [hw]; simp; omega
    have hy : decide (nb < 0) = true := by simp; omega
    clear hw
    go_enter Tryd.func36, Tryd.ntmps36
    go_wp2
    exact bodyPost_ret (v := sumV 0 0 12) (by simp [results, Tryd.results36, go_sem, sumV]) rfl ⟨rfl, by repeat (first | exact Below.refl _ _ | (refine Below.alloc ?_ (by simp <;> omega) _) | (refine Below.setCell ?_ (by simp <;> omega) _))⟩
  · have hw : wrap64 (na + nb) = na + nb - 18446744073709551616 := by unfold wrap64; omega
    have hx : decide (wrap64 (na + nb) < na) = true := by rw [hw]; simp; omega
    have hy : decide (nb < 0) = false := by simp; omega
    clear hw
    go_enter Tryd.func36, Tryd.ntmps36
    go_wp2
    exact bodyPost_ret (v := sumV 0 0 12) (by simp [results, Tryd.results36, go_sem, sumV]) rfl ⟨rfl, by repeat (first | exact Below.refl _ _ | (refine Below.alloc ?_ (by simp <;> omega) _) | (refine Below.setCell ?_ (by simp <;> omega) _))⟩
end Go.Proofs.YtmilcgikncecnaaDoor
