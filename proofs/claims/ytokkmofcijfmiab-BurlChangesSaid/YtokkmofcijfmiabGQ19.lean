/-
  WHAT IS PROVED: '==' of a burl and itself. Conditions: those typed in each theorem. · cell.Good answers what the document's Good does, goodB, for every value. No condition. · deed.Good answers what the document's Good does, opB, for every operation. Condition: the texts are no longer than the form's reach. · stamp.Good answers what the document's Good of a write does. Condition: the texts are no longer than the form's reach.
-/
import Derived.Test.YtokkmofcijfmiabBuE
import Derived.ChangeKeysEq
import Derived.Test.YtokkmofcijfmiabBase
import Derived.Test.YtokkmofcijfmiabGQ1
import Derived.WalkKit
import Derived.WalkSpells
import Derived.WalkLawsBesides
import Derived.Lib.Hide
import Derived.Test.YtokkmofcijfmiabOpRef
import Derived.Test.YtokkmofcijfmiabGQ3
namespace Go.Proofs.Ytokkmofcijfmiab
open Go.RowKit

theorem u64_infoT : (Try.prog.info? 36).map (fun i => (i.zero, i.size, i.bytes)) = some (some (.int .u64 0), 1, 8) := by kernel_rfl
theorem cells_u64T : Try.prog.cellsOf 36 = 1 := by kernel_rfl
set_option maxRecDepth 100000 in
set_option maxHeartbeats 4000000 in
theorem arr_eqT (L : List Nat) (hl : L.length = 16) (W : World) : (Op.equalIn 9999 37 (.agg (buL L)) (.agg (buL L))).run Try.prog W = .ok true W := by
  obtain ⟨a0, a1, a2, a3, a4, a5, a6, a7, a8, a9, a10, a11, a12, a13, a14, a15, rfl⟩ := bu_cases hl
  obtain ⟨i0, hi0, _, _, _⟩ := info_parts u64_infoT
  show (Op.equalIn 9999 37 (.agg #[.int .u64 (a0 : Int), .int .u64 (a1 : Int), .int .u64 (a2 : Int), .int .u64 (a3 : Int), .int .u64 (a4 : Int), .int .u64 (a5 : Int), .int .u64 (a6 : Int), .int .u64 (a7 : Int), .int .u64 (a8 : Int), .int .u64 (a9 : Int), .int .u64 (a10 : Int), .int .u64 (a11 : Int), .int .u64 (a12 : Int), .int .u64 (a13 : Int), .int .u64 (a14 : Int), .int .u64 (a15 : Int)]) (.agg #[.int .u64 (a0 : Int), .int .u64 (a1 : Int), .int .u64 (a2 : Int), .int .u64 (a3 : Int), .int .u64 (a4 : Int), .int .u64 (a5 : Int), .int .u64 (a6 : Int), .int .u64 (a7 : Int), .int .u64 (a8 : Int), .int .u64 (a9 : Int), .int .u64 (a10 : Int), .int .u64 (a11 : Int), .int .u64 (a12 : Int), .int .u64 (a13 : Int), .int .u64 (a14 : Int), .int .u64 (a15 : Int)])).run Try.prog W = _
  rw [run_equalIn_array W 9998 _ _ Try.underlying37 hi0, cells_u64T, show List.range 16 = [0, 1, 2, 3, 4, 5, 6, 7, 8, 9, 10, 11, 12, 13, 14, 15] from rfl]
  simp only [Op.eqItems]
  go_simp
theorem bu_ext (r : Nat) (L : List Nat) (hl : L.length = 16) : (buC r L).extract 1 17 = buL L := by
  obtain ⟨a0, a1, a2, a3, a4, a5, a6, a7, a8, a9, a10, a11, a12, a13, a14, a15, rfl⟩ := bu_cases hl
  rfl
theorem burl_eqT (t : TypeId) (h : t = 39 ∨ t = 66) (r : Nat) (L : List Nat) (hl : L.length = 16) (W : World) : (Op.equalIn 10000 t (.agg (buC r L)) (.agg (buC r L))).run Try.prog W = .ok true W := by
  have ha := arr_eqT L hl W
  have h0 := buC_0 r L
  have he := bu_ext r L hl
  generalize buC r L = cs at h0 he ⊢
  generalize buL L = ls at ha he
  rcases h with rfl | rfl
  · rw [run_equalIn_agg W 9999 _ _ _ (by kernel_rfl) (by kernel_rfl)]
    go_simp
  · rw [run_equalIn_agg W 9999 _ _ _ (by kernel_rfl) (by kernel_rfl)]
    go_simp
theorem burl_eqlC (t : TypeId) (h : t = 39 ∨ t = 66) (i j : Nat) (r : Nat) (L : List Nat) (hl : L.length = 16) (W : World) : ((do eqGuard .eql t (.tmp i) (.tmp j) (.agg (buC r L)) (.agg (buC r L)); binOp .eql t (.agg (buC r L)) (.agg (buC r L))) : Sem Value).run Try.prog W = .ok (.bool true) W := by
  have ha := arr_eqT L hl W
  have h0 := buC_0 r L
  have he := bu_ext r L hl
  generalize buC r L = cs at h0 he ⊢
  generalize buL L = ls at ha he
  rcases h with rfl | rfl <;> go_simp
end Go.Proofs.Ytokkmofcijfmiab

namespace Go.Proofs.Ytokkmofcijfmiab
open Go.RowKit

set_option maxHeartbeats 1000000 in
theorem good_any (k n : Int) (s : ByteArray) (w : World) (hs : s.size ≤ maxLen) :
    Calls Try.prog 55 #[.agg #[.int .i64 k, .int .i64 n, .string s]] w fun e w' => e = .returned (.bool (goodB k n s)) ∧ Below w.heap.size w w' := by
  unfold maxLen at hs
  go_enter Try.func55, Try.ntmps55
  go_wp2
  all_goals go_ret
  all_goals refine ⟨ret_bool ?_, b0 _ _⟩
  all_goals unfold goodB
  all_goals rw [Bool.eq_iff_iff]
  all_goals simp only [beq_iff_eq, beq_eq_false_iff_ne, decide_eq_true_eq, isEmpty_iff, Bool.false_eq_true, false_iff] at *
  all_goals omega
end Go.Proofs.Ytokkmofcijfmiab

namespace Go.Proofs.Ytokkmofcijfmiab
open Go.RowKit

/-- A value is nothing. -/
def noneB (k n : Int) (s : ByteArray) : Bool := decide (k = 0 ∧ n = 0 ∧ s.size = 0)
end Go.Proofs.Ytokkmofcijfmiab

namespace Go.Proofs.Ytokkmofcijfmiab
open Go.RowKit

end Go.Proofs.Ytokkmofcijfmiab
