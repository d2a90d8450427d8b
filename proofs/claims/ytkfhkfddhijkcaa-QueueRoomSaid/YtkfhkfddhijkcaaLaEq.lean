/-
  WHAT IS PROVED: '==' and '!=' of arrays of twelve numbers. Conditions: none.
-/
import Derived.Test.YtkfhkfddhijkcaaGQ4
import Derived.ChangeKeysEq
namespace Go.Proofs.Ytkfhkfddhijkcaa
open Go.RowKit

theorem if_ok {p : Prop} [Decidable p] {W : World} {b : Bool} {r : Result Bool} (h : r = .ok b W) : (if p then r else .ok false W) = .ok (decide p && b) W := by
  by_cases hp : p <;> simp [hp, h]
theorem if_ok1 {p : Prop} [Decidable p] {W : World} : (if p then Result.ok true W else .ok false W) = .ok (decide p) W := by
  by_cases hp : p <;> simp [hp]
theorem int_infoT : (Try.prog.info? 3).map (fun i => (i.zero, i.size, i.bytes)) = some (some (.int .i64 0), 1, 8) := by kernel_rfl
theorem cells_intT : Try.prog.cellsOf 3 = 1 := by kernel_rfl
theorem la_eqI (v0 v1 v2 v3 v4 v5 v6 v7 v8 v9 v10 v11 u0 u1 u2 u3 u4 u5 u6 u7 u8 u9 u10 u11 : Int) (W : World) : (Op.equalIn 10000 28 (.agg (laI v0 v1 v2 v3 v4 v5 v6 v7 v8 v9 v10 v11)) (.agg (laI u0 u1 u2 u3 u4 u5 u6 u7 u8 u9 u10 u11))).run Try.prog W = .ok (decide (laL v0 v1 v2 v3 v4 v5 v6 v7 v8 v9 v10 v11 = laL u0 u1 u2 u3 u4 u5 u6 u7 u8 u9 u10 u11)) W := by
  obtain ⟨i0, hi0, _, _, _⟩ := info_parts int_infoT
  rw [run_equalIn_array W 9999 _ _ Try.underlying28 hi0, cells_intT, show List.range 12 = [0, 1, 2, 3, 4, 5, 6, 7, 8, 9, 10, 11] from rfl]
  simp only [Op.eqItems]
  go_simp
  iterate 11 (refine if_ok ?_)
  exact if_ok1
theorem la_neqA (v0 v1 v2 v3 v4 v5 v6 v7 v8 v9 v10 v11 u0 u1 u2 u3 u4 u5 u6 u7 u8 u9 u10 u11 : Int) (W : World) : (binOp .neq 28 (.agg (laI v0 v1 v2 v3 v4 v5 v6 v7 v8 v9 v10 v11)) (.agg (laI u0 u1 u2 u3 u4 u5 u6 u7 u8 u9 u10 u11))).run Try.prog W = .ok (.bool (!decide (laL v0 v1 v2 v3 v4 v5 v6 v7 v8 v9 v10 v11 = laL u0 u1 u2 u3 u4 u5 u6 u7 u8 u9 u10 u11))) W := by
  rw [run_neq_struct, la_eqI]
  rfl
theorem la_eqlA (v0 v1 v2 v3 v4 v5 v6 v7 v8 v9 v10 v11 u0 u1 u2 u3 u4 u5 u6 u7 u8 u9 u10 u11 : Int) (W : World) : (binOp .eql 28 (.agg (laI v0 v1 v2 v3 v4 v5 v6 v7 v8 v9 v10 v11)) (.agg (laI u0 u1 u2 u3 u4 u5 u6 u7 u8 u9 u10 u11))).run Try.prog W = .ok (.bool (decide (laL v0 v1 v2 v3 v4 v5 v6 v7 v8 v9 v10 v11 = laL u0 u1 u2 u3 u4 u5 u6 u7 u8 u9 u10 u11))) W := by
  rw [run_eql_struct, la_eqI]
  rfl
theorem la_eqIL (v0 v1 v2 v3 v4 v5 v6 v7 v8 v9 v10 v11 u0 u1 u2 u3 u4 u5 u6 u7 u8 u9 u10 u11 : Int) (W : World) : (Op.equalIn 10000 29 (.agg (laI v0 v1 v2 v3 v4 v5 v6 v7 v8 v9 v10 v11)) (.agg (laI u0 u1 u2 u3 u4 u5 u6 u7 u8 u9 u10 u11))).run Try.prog W = .ok (decide (laL v0 v1 v2 v3 v4 v5 v6 v7 v8 v9 v10 v11 = laL u0 u1 u2 u3 u4 u5 u6 u7 u8 u9 u10 u11)) W := by
  obtain ⟨i0, hi0, _, _, _⟩ := info_parts int_infoT
  rw [run_equalIn_array W 9999 _ _ Try.underlying29 hi0, cells_intT, show List.range 12 = [0, 1, 2, 3, 4, 5, 6, 7, 8, 9, 10, 11] from rfl]
  simp only [Op.eqItems]
  go_simp
  iterate 11 (refine if_ok ?_)
  exact if_ok1
theorem la_neqAL (v0 v1 v2 v3 v4 v5 v6 v7 v8 v9 v10 v11 u0 u1 u2 u3 u4 u5 u6 u7 u8 u9 u10 u11 : Int) (W : World) : (binOp .neq 29 (.agg (laI v0 v1 v2 v3 v4 v5 v6 v7 v8 v9 v10 v11)) (.agg (laI u0 u1 u2 u3 u4 u5 u6 u7 u8 u9 u10 u11))).run Try.prog W = .ok (.bool (!decide (laL v0 v1 v2 v3 v4 v5 v6 v7 v8 v9 v10 v11 = laL u0 u1 u2 u3 u4 u5 u6 u7 u8 u9 u10 u11))) W := by
  rw [run_neq_struct, la_eqIL]
  rfl
theorem la_eqlAL (v0 v1 v2 v3 v4 v5 v6 v7 v8 v9 v10 v11 u0 u1 u2 u3 u4 u5 u6 u7 u8 u9 u10 u11 : Int) (W : World) : (binOp .eql 29 (.agg (laI v0 v1 v2 v3 v4 v5 v6 v7 v8 v9 v10 v11)) (.agg (laI u0 u1 u2 u3 u4 u5 u6 u7 u8 u9 u10 u11))).run Try.prog W = .ok (.bool (decide (laL v0 v1 v2 v3 v4 v5 v6 v7 v8 v9 v10 v11 = laL u0 u1 u2 u3 u4 u5 u6 u7 u8 u9 u10 u11))) W := by
  rw [run_eql_struct, la_eqIL]
  rfl
theorem li_eqL {a b : List Int} (ha : a.length = 12) (hb : b.length = 12) (W : World) : (binOp .eql 29 (.agg (liA a)) (.agg (liA b))).run Try.prog W = .ok (.bool (decide (a = b))) W := by
  obtain ⟨a0, a1, a2, a3, a4, a5, a6, a7, a8, a9, a10, a11, rfl⟩ := li_cases ha
  obtain ⟨b0, b1, b2, b3, b4, b5, b6, b7, b8, b9, b10, b11, rfl⟩ := li_cases hb
  exact la_eqlAL a0 a1 a2 a3 a4 a5 a6 a7 a8 a9 a10 a11 b0 b1 b2 b3 b4 b5 b6 b7 b8 b9 b10 b11 W
theorem li_eqA {a b : List Int} (ha : a.length = 12) (hb : b.length = 12) (W : World) : (binOp .eql 28 (.agg (liA a)) (.agg (liA b))).run Try.prog W = .ok (.bool (decide (a = b))) W := by
  obtain ⟨a0, a1, a2, a3, a4, a5, a6, a7, a8, a9, a10, a11, rfl⟩ := li_cases ha
  obtain ⟨b0, b1, b2, b3, b4, b5, b6, b7, b8, b9, b10, b11, rfl⟩ := li_cases hb
  exact la_eqlA a0 a1 a2 a3 a4 a5 a6 a7 a8 a9 a10 a11 b0 b1 b2 b3 b4 b5 b6 b7 b8 b9 b10 b11 W
theorem li_eqC (i j : Nat) {x y : List Int} (hx : x.length = 12) (hy : y.length = 12) (W : World) : ((do eqGuard .eql 29 (.tmp i) (.tmp j) (.agg (liA x)) (.agg (liA y)); binOp .eql 29 (.agg (liA x)) (.agg (liA y))) : Sem Value).run Try.prog W = .ok (.bool (decide (x = y))) W := by
  obtain ⟨a0, a1, a2, a3, a4, a5, a6, a7, a8, a9, a10, a11, rfl⟩ := li_cases hx
  obtain ⟨b0, b1, b2, b3, b4, b5, b6, b7, b8, b9, b10, b11, rfl⟩ := li_cases hy
  have h := la_eqIL a0 a1 a2 a3 a4 a5 a6 a7 a8 a9 a10 a11 b0 b1 b2 b3 b4 b5 b6 b7 b8 b9 b10 b11 W
  show ((do eqGuard .eql 29 (.tmp i) (.tmp j) (.agg (laI a0 a1 a2 a3 a4 a5 a6 a7 a8 a9 a10 a11)) (.agg (laI b0 b1 b2 b3 b4 b5 b6 b7 b8 b9 b10 b11)); binOp .eql 29 (.agg (laI a0 a1 a2 a3 a4 a5 a6 a7 a8 a9 a10 a11)) (.agg (laI b0 b1 b2 b3 b4 b5 b6 b7 b8 b9 b10 b11))) : Sem Value).run Try.prog W = _
  generalize laI a0 a1 a2 a3 a4 a5 a6 a7 a8 a9 a10 a11 = a at h ⊢
  generalize laI b0 b1 b2 b3 b4 b5 b6 b7 b8 b9 b10 b11 = c at h ⊢
  go_simp
theorem li_eqCA (i j : Nat) {x y : List Int} (hx : x.length = 12) (hy : y.length = 12) (W : World) : ((do eqGuard .eql 28 (.tmp i) (.tmp j) (.agg (liA x)) (.agg (liA y)); binOp .eql 28 (.agg (liA x)) (.agg (liA y))) : Sem Value).run Try.prog W = .ok (.bool (decide (x = y))) W := by
  obtain ⟨a0, a1, a2, a3, a4, a5, a6, a7, a8, a9, a10, a11, rfl⟩ := li_cases hx
  obtain ⟨b0, b1, b2, b3, b4, b5, b6, b7, b8, b9, b10, b11, rfl⟩ := li_cases hy
  have h := la_eqI a0 a1 a2 a3 a4 a5 a6 a7 a8 a9 a10 a11 b0 b1 b2 b3 b4 b5 b6 b7 b8 b9 b10 b11 W
  show ((do eqGuard .eql 28 (.tmp i) (.tmp j) (.agg (laI a0 a1 a2 a3 a4 a5 a6 a7 a8 a9 a10 a11)) (.agg (laI b0 b1 b2 b3 b4 b5 b6 b7 b8 b9 b10 b11)); binOp .eql 28 (.agg (laI a0 a1 a2 a3 a4 a5 a6 a7 a8 a9 a10 a11)) (.agg (laI b0 b1 b2 b3 b4 b5 b6 b7 b8 b9 b10 b11))) : Sem Value).run Try.prog W = _
  generalize laI a0 a1 a2 a3 a4 a5 a6 a7 a8 a9 a10 a11 = a at h ⊢
  generalize laI b0 b1 b2 b3 b4 b5 b6 b7 b8 b9 b10 b11 = c at h ⊢
  go_simp
end Go.Proofs.Ytkfhkfddhijkcaa
