/-
  WHAT IS PROVED: the law RosterTells returns true. Conditions: those typed in each theorem.
-/
import Derived.Test.YtkfhkfddhijkcaaRoE
import Derived.Test.YtkfhkfddhijkcaaRoF
import Derived.Test.YtkfhkfddhijkcaaWrSame
namespace Go.Proofs.Ytkfhkfddhijkcaa
open Go.RowKit

theorem en_spinney_spinneyref03_GoodId : ∀ args w, (callFunc 69 args).run Try.prog w = .ok (.enter 69 args) w := enters_of Try.func69 (by kernel_rfl) rfl
theorem en_spinney_spinneyref03_Same : ∀ args w, (callFunc 22 args).run Try.prog w = .ok (.enter 22 args) w := enters_of Try.func22 (by kernel_rfl) rfl

theorem good_nums {x : Wr} (h : x.good = true) : nodeB x.dev = true ∧ -1000 ≤ x.seq ∧ x.seq ≤ 1000 := by
  unfold Wr.good wrGoodB at h
  rw [Bool.and_eq_true] at h
  have h1 := of_decide_eq_true (show decide _ = true from h.1)
  refine ⟨?_, by omega, by omega⟩
  unfold nodeB
  rw [decide_eq_true (by omega), decide_eq_true (by omega)]
  rfl
theorem good_len {x : Wr} (h : x.good = true) : x.ky.size ≤ 1000000 ∧ x.sa.size ≤ 1000000 ∧ x.sb.size ≤ 1000000 := by
  unfold Wr.good wrGoodB opB at h
  rw [Bool.and_eq_true, Bool.and_eq_true, Bool.and_eq_true, Bool.and_eq_true] at h
  obtain ⟨_, ⟨⟨h1, h2⟩, h3⟩, _⟩ := h
  unfold keyB at h1
  rw [Bool.and_eq_true] at h1
  have k1 := of_decide_eq_true h1.2
  have k0 : x.ky.data.toList.length = x.ky.size := Array.length_toList
  unfold goodB at h2 h3
  have k2 := of_decide_eq_true h2
  have k3 := of_decide_eq_true h3
  omega
theorem id_nat {d q : Int} (h : idB d q = true) : ∃ k : Nat, k < 12 ∧ d = (k : Int) ∧ -1000 ≤ q ∧ q ≤ 1000 := by
  have h1 := of_decide_eq_true (show decide _ = true from h)
  exact ⟨d.toNat, by omega, by omega, by omega, by omega⟩
theorem in_eq (i j : Nat) (m : Int) (W : World) : ((do eqGuard .eql 3 (.tmp i) (.tmp j) (.int .i64 m) (.int .i64 m); binOp .eql 3 (.int .i64 m) (.int .i64 m)) : Sem Value).run Try.prog W = .ok (.bool true) W := by go_simp
end Go.Proofs.Ytkfhkfddhijkcaa
