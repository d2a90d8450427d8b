/-
  WHAT IS PROVED: closed facts on the entries by which errors.As of Go's own text is walked, where package frame calls it: with a target of its type 'number', of an error of that type, or of its type 'wrongLength' (which wraps such a one). Conditions: those typed in each theorem.
-/
import Derived.Test.YtggoinjjdogmaaaDoorFrameIface
import Derived.WalkKit
import Derived.LaidEql
import Derived.Stop.Asserts
import Derived.RowKitTokens
import Derived.Lib.ReflectliteSlice
namespace Go.Proofs.YtggoinjjdogmaaaDoor
open Go.RowKit Go.Extern.Stop Go.Stop Go.Extern

theorem aValueOfP (t : Addr) (w : World) : (ReflectliteValue.unpack (.iface 64 (.pointer (some t)))).run Tryd.prog w
    = .ok (.agg #[.pointer (some ⟨2, 64, none⟩), .pointer (some ⟨w.heap.size, 0, none⟩), .int .u64 150]) (w.alloc (.cells #[.pointer (some t)] 64)) := by kernel_rfl
theorem aTypeP (a : Addr) (w : World) : (ReflectliteValue.methodAny (ReflectliteValue.valueError "reflectlite.Value.Type" 0) (fun t _ _ _ => ReflectliteType.toType t) #[.agg #[.pointer (some ⟨2, 64, none⟩), .pointer (some a), .int .u64 150]]).run Tryd.prog w
    = .ok (.iface 79 (.agg #[.pointer (some ⟨2, 64, none⟩)])) w := by kernel_rfl
theorem aMKind (h : Value) (w : World) : (Go.method 221 79 (.agg #[h]) "Kind").run Tryd.prog w = .ok (48, h) w := by kernel_rfl
theorem aMElem (h : Value) (w : World) : (Go.method 221 79 (.agg #[h]) "Elem").run Tryd.prog w = .ok (60, .agg #[h]) w := by kernel_rfl
theorem aMImplements (h : Value) (w : World) : (Go.method 221 79 (.agg #[h]) "Implements").run Tryd.prog w = .ok (61, .agg #[h]) w := by kernel_rfl
theorem aMAssignableTo (h : Value) (w : World) : (Go.method 221 79 (.agg #[h]) "AssignableTo").run Tryd.prog w = .ok (58, .agg #[h]) w := by kernel_rfl
/-- The model's entry of (*abi.Type).Kind, as it is found. -/
noncomputable def eKind : Array Value → Sem Value := (Go.Extern.find Tryd.f48).getD fun _ => pure .nilIface
theorem aKindP (w : World) : (eKind #[.pointer (some ⟨2, 64, none⟩)]).run Tryd.prog w = .ok (.int .u8 22) w := by kernel_rfl
theorem aKindW (w : World) : (eKind #[.pointer (some ⟨2, 62, none⟩)]).run Tryd.prog w = .ok (.int .u8 2) w := by kernel_rfl
theorem aElemP (w : World) : (ReflectliteType.method ReflectliteType.elem #[.agg #[.pointer (some ⟨2, 64, none⟩)]]).run Tryd.prog w = .ok (.iface 79 (.agg #[.pointer (some ⟨2, 62, none⟩)])) w := by kernel_rfl
theorem aImplementsW (w : World) : (ReflectliteType.relation "Implements" ReflectliteType.implements_ #[.agg #[.pointer (some ⟨2, 62, none⟩)], .iface 79 (.agg #[.pointer (some ⟨2, 56, none⟩)])]).run Tryd.prog w = .ok (.bool true) w := by kernel_rfl
theorem aTypeOfW (v : Value) (w : World) : (ReflectliteType.typeOf #[.iface 62 v]).run Tryd.prog w = .ok (.iface 79 (.agg #[.pointer (some ⟨2, 62, none⟩)])) w := by kernel_rfl
theorem aAssignableW (w : World) : (ReflectliteType.relation "AssignableTo" ReflectliteType.assignableTo #[.agg #[.pointer (some ⟨2, 62, none⟩)], .iface 79 (.agg #[.pointer (some ⟨2, 62, none⟩)])]).run Tryd.prog w = .ok (.bool true) w := by kernel_rfl
theorem aValueOfW (n : Int) (w : World) : (ReflectliteValue.unpack (.iface 62 (.int .i64 n))).run Tryd.prog w
    = .ok (.agg #[.pointer (some ⟨2, 62, none⟩), .pointer (some ⟨w.heap.size, 0, none⟩), .int .u64 130]) (w.alloc (.cells #[.int .i64 n] 62)) := by kernel_rfl

theorem aPartsP (a : Addr) (w : World) : (ReflectliteValue.parts (.agg #[.pointer (some ⟨2, 64, none⟩), .pointer (some a), .int .u64 150])).run Tryd.prog w = .ok (some (64, a, 150)) w := by kernel_rfl
/-- (Value).IsNil of the target. -/
theorem aIsNilP (a p : Addr) (W : World) (ha : W.cell? a = some (.pointer (some p))) :
    (ReflectliteValue.method (ReflectliteValue.valueError "reflectlite.Value.IsNil" 0) ReflectliteValue.isNil #[.agg #[.pointer (some ⟨2, 64, none⟩), .pointer (some a), .int .u64 150]]).run Tryd.prog W = .ok (.bool false) W := by
  rw [Go.Lib.rl_method]
  simp only [Sem.run_bind, aPartsP, Result.andThen]
  simp [ReflectliteValue.isNil, loadVar, isAgg, underlying, Tryd.underlying64, ha, Result.andThen]
theorem aElemOfP (w : World) : (Rtype.elem? 64).run Tryd.prog w = .ok (some 62) w := by kernel_rfl
theorem aMkW (p : Addr) (w : World) : (ReflectliteValue.mk 62 p ReflectliteValue.flagAddr).run Tryd.prog w = .ok (.agg #[.pointer (some ⟨2, 62, none⟩), .pointer (some p), .int .u64 386]) w := by kernel_rfl
/-- (Value).Elem of the target: what it points to, addressable. -/
theorem aElemVP (a p : Addr) (W : World) (ha : W.cell? a = some (.pointer (some p))) :
    (ReflectliteValue.method (ReflectliteValue.valueError "reflectlite.Value.Elem" 0) ReflectliteValue.elem #[.agg #[.pointer (some ⟨2, 64, none⟩), .pointer (some a), .int .u64 150]]).run Tryd.prog W
      = .ok (.agg #[.pointer (some ⟨2, 62, none⟩), .pointer (some p), .int .u64 386]) W := by
  rw [Go.Lib.rl_method]
  simp only [Sem.run_bind, aPartsP, Result.andThen]
  simp [ReflectliteValue.elem, loadVar, isAgg, underlying, Tryd.underlying64, ha, Result.andThen, aElemOfP, aMkW]
theorem aPartsA (a : Addr) (w : World) : (ReflectliteValue.parts (.agg #[.pointer (some ⟨2, 62, none⟩), .pointer (some a), .int .u64 386])).run Tryd.prog w = .ok (some (62, a, 386)) w := by kernel_rfl
theorem aPartsW (a : Addr) (w : World) : (ReflectliteValue.parts (.agg #[.pointer (some ⟨2, 62, none⟩), .pointer (some a), .int .u64 130])).run Tryd.prog w = .ok (some (62, a, 130)) w := by kernel_rfl
theorem aDirectW (w : World) : (Rtype.directlyAssignable 62 62).run Tryd.prog w = .ok true w := by kernel_rfl
theorem aSizeW (w : World) : (sizeOf 62).run Tryd.prog w = .ok 1 w := by kernel_rfl
theorem aAggW (w : World) : (isAgg 62).run Tryd.prog w = .ok false w := by kernel_rfl
theorem aLoadW (b : Nat) (v : Value) (W : World) (hb : Blk W b #[v] 62) : (loadVar 62 ⟨b, 0, none⟩).run Tryd.prog W = .ok v W := by
  have h0 := hb.cell 0
  simp [loadVar, Result.andThen, h0, isAgg, underlying, Tryd.underlying62]
theorem aStoreW (b : Nat) (n : Int) (u : Value) (W : World) (hb : Blk W b #[u] 62) :
    (storeVar 62 ⟨b, 0, none⟩ (.int .i64 n)).run Tryd.prog W = .ok () (W.setCell ⟨b, 0, none⟩ (.int .i64 n)) := by
  have h0 := hb.cell 0
  have f0 := hb.free 0
  simp [storeVar, Value.cells, storeCells, Addr.add, Result.andThen]
  rw [run_store Tryd.prog W ⟨b, 0, none⟩ _ _ rfl]
  simp [h0, f0]
/-- (Value).Set. -/
theorem aSetW (b c : Nat) (n : Int) (u : Value) (W : World) (hc : Blk W c #[.int .i64 n] 62) (hb : Blk W b #[u] 62) :
    (ReflectliteValue.set #[.agg #[.pointer (some ⟨2, 62, none⟩), .pointer (some ⟨b, 0, none⟩), .int .u64 386], .agg #[.pointer (some ⟨2, 62, none⟩), .pointer (some ⟨c, 0, none⟩), .int .u64 130]]).run Tryd.prog W
      = .ok (.tuple #[]) (W.setCell ⟨b, 0, none⟩ (.int .i64 n)) := by
  show Sem.run Tryd.prog (ReflectliteValue.parts (.agg #[.pointer (some ⟨2, 62, none⟩), .pointer (some ⟨b, 0, none⟩), .int .u64 386]) >>= fun _ => ReflectliteValue.parts (.agg #[.pointer (some ⟨2, 62, none⟩), .pointer (some ⟨c, 0, none⟩), .int .u64 130]) >>= _) W = _
  simp only [Sem.run_bind, aPartsA, aPartsW, Result.andThen]
  simp [ReflectliteValue.flagAddr, Result.andThen, aLoadW c _ W hc, aDirectW, aStoreW b n u W hb]

/-! The other error type. -/
theorem aTypeOfL (v : Value) (w : World) : (ReflectliteType.typeOf #[.iface 54 v]).run Tryd.prog w = .ok (.iface 79 (.agg #[.pointer (some ⟨2, 54, none⟩)])) w := by kernel_rfl
theorem aAssignableL (w : World) : (ReflectliteType.relation "AssignableTo" ReflectliteType.assignableTo #[.agg #[.pointer (some ⟨2, 54, none⟩)], .iface 79 (.agg #[.pointer (some ⟨2, 62, none⟩)])]).run Tryd.prog w = .ok (.bool false) w := by kernel_rfl
theorem aNoAs (v : Value) (xT : TypeId) (w : World) : (Instr.typeAssert (.iface 54 v) xT 84 true).run Tryd.prog w = .ok (.tuple #[.nilIface, .bool false]) w := run_typeAssert_lacksB Tryd.underlying84 (by kernel_rfl) (by kernel_rfl) v xT w
theorem aUnwraps (v : Value) (xT : TypeId) (w : World) : (Instr.typeAssert (.iface 54 v) xT 87 true).run Tryd.prog w = .ok (.tuple #[.iface 54 v, .bool true]) w := run_typeAssert_hasB Tryd.underlying87 (by kernel_rfl) v xT w
theorem aMUnwrap (v : Value) (w : World) : (Go.method 221 54 v "Unwrap").run Tryd.prog w = .ok (52, v) w := by kernel_rfl
/-- errors.As(nil, ..). -/
theorem as_nil (t : Value) (w : World) :
    Calls Tryd.prog 24 #[.nilIface, t] w fun e w' => e = .returned (.bool false) ∧ w' = w := by
  go_enter Tryd.func24, Tryd.ntmps24
  go_wp2
  go_ret
  exact ⟨rfl, rfl⟩
/-- What an error that tells a length wraps. -/
theorem unwrap_any (l n : Int) (w : World) :
    Calls Tryd.prog 52 #[.agg #[.int .i64 l, .int .i64 n]] w fun e w' => e = .returned (.iface 62 (.int .i64 n)) ∧ w' = w.alloc (.cells #[.int .i64 l, .int .i64 n] 54) := by
  go_enter Tryd.func52, Tryd.ntmps52
  go_wp2
  go_ret
  exact ⟨rfl, rfl⟩
end Go.Proofs.YtggoinjjdogmaaaDoor
