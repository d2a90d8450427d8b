/-
  WHAT IS PROVED: errors.As of Go's own text, walked, of an error of package pack's type 'wrong' with a target of that type: true, and the target holds it. Conditions: those typed in the theorem.
-/
import Derived.Test.YtnlnbgcmmlpniaaDoorErrs
import Derived.Lib.ReflectliteSlice
namespace Go.Proofs.YtnlnbgcmmlpniaaDoor
open Go.RowKit Go.Extern.Stop Go.Stop Go.Extern

theorem aValueOfP (t : Addr) (w : World) : (ReflectliteValue.unpack (.iface 83 (.pointer (some t)))).run Tryd.prog w
    = .ok (.agg #[.pointer (some ⟨2, 83, none⟩), .pointer (some ⟨w.heap.size, 0, none⟩), .int .u64 150]) (w.alloc (.cells #[.pointer (some t)] 83)) := by kernel_rfl
theorem aTypeP (a : Addr) (w : World) : (ReflectliteValue.methodAny (ReflectliteValue.valueError "reflectlite.Value.Type" 0) (fun t _ _ _ => ReflectliteType.toType t) #[.agg #[.pointer (some ⟨2, 83, none⟩), .pointer (some a), .int .u64 150]]).run Tryd.prog w
    = .ok (.iface 108 (.agg #[.pointer (some ⟨2, 83, none⟩)])) w := by kernel_rfl
theorem aMKind (h : Value) (w : World) : (Go.method 255 108 (.agg #[h]) "Kind").run Tryd.prog w = .ok (88, h) w := by kernel_rfl
theorem aMElem (h : Value) (w : World) : (Go.method 255 108 (.agg #[h]) "Elem").run Tryd.prog w = .ok (98, .agg #[h]) w := by kernel_rfl
theorem aMImplements (h : Value) (w : World) : (Go.method 255 108 (.agg #[h]) "Implements").run Tryd.prog w = .ok (99, .agg #[h]) w := by kernel_rfl
theorem aMAssignableTo (h : Value) (w : World) : (Go.method 255 108 (.agg #[h]) "AssignableTo").run Tryd.prog w = .ok (96, .agg #[h]) w := by kernel_rfl
/-- The model's entry of (*abi.Type).Kind, as it is found. -/
noncomputable def eKind : Array Value → Sem Value := (Go.Extern.find Tryd.f88).getD fun _ => pure .nilIface
theorem aKindP (w : World) : (eKind #[.pointer (some ⟨2, 83, none⟩)]).run Tryd.prog w = .ok (.int .u8 22) w := by kernel_rfl
theorem aKindW (w : World) : (eKind #[.pointer (some ⟨2, 66, none⟩)]).run Tryd.prog w = .ok (.int .u8 25) w := by kernel_rfl
theorem aElemP (w : World) : (ReflectliteType.method ReflectliteType.elem #[.agg #[.pointer (some ⟨2, 83, none⟩)]]).run Tryd.prog w = .ok (.iface 108 (.agg #[.pointer (some ⟨2, 66, none⟩)])) w := by kernel_rfl
theorem aImplementsW (w : World) : (ReflectliteType.relation "Implements" ReflectliteType.implements_ #[.agg #[.pointer (some ⟨2, 66, none⟩)], .iface 108 (.agg #[.pointer (some ⟨2, 52, none⟩)])]).run Tryd.prog w = .ok (.bool true) w := by kernel_rfl
theorem aTypeOfW (v : Value) (w : World) : (ReflectliteType.typeOf #[.iface 66 v]).run Tryd.prog w = .ok (.iface 108 (.agg #[.pointer (some ⟨2, 66, none⟩)])) w := by kernel_rfl
theorem aAssignableW (w : World) : (ReflectliteType.relation "AssignableTo" ReflectliteType.assignableTo #[.agg #[.pointer (some ⟨2, 66, none⟩)], .iface 108 (.agg #[.pointer (some ⟨2, 66, none⟩)])]).run Tryd.prog w = .ok (.bool true) w := by kernel_rfl
theorem aValueOfW (s : ByteArray) (n : Int) (w : World) : (ReflectliteValue.unpack (.iface 66 (.agg #[.string s, .int .i64 n]))).run Tryd.prog w
    = .ok (.agg #[.pointer (some ⟨2, 66, none⟩), .pointer (some ⟨w.heap.size, 0, none⟩), .int .u64 153]) (w.alloc (.cells #[.string s, .int .i64 n] 66)) := by kernel_rfl

theorem aPartsP (a : Addr) (w : World) : (ReflectliteValue.parts (.agg #[.pointer (some ⟨2, 83, none⟩), .pointer (some a), .int .u64 150])).run Tryd.prog w = .ok (some (83, a, 150)) w := by kernel_rfl
/-- (Value).IsNil of the target. -/
theorem aIsNilP (a p : Addr) (W : World) (ha : W.cell? a = some (.pointer (some p))) :
    (ReflectliteValue.method (ReflectliteValue.valueError "reflectlite.Value.IsNil" 0) ReflectliteValue.isNil #[.agg #[.pointer (some ⟨2, 83, none⟩), .pointer (some a), .int .u64 150]]).run Tryd.prog W = .ok (.bool false) W := by
  rw [Go.Lib.rl_method]
  simp only [Sem.run_bind, aPartsP, Result.andThen]
  simp [ReflectliteValue.isNil, loadVar, isAgg, underlying, Tryd.underlying83, ha, Result.andThen]
theorem aElemOfP (w : World) : (Rtype.elem? 83).run Tryd.prog w = .ok (some 66) w := by kernel_rfl
theorem aMkW (p : Addr) (w : World) : (ReflectliteValue.mk 66 p ReflectliteValue.flagAddr).run Tryd.prog w = .ok (.agg #[.pointer (some ⟨2, 66, none⟩), .pointer (some p), .int .u64 409]) w := by kernel_rfl
/-- (Value).Elem of the target: what it points to, addressable. -/
theorem aElemVP (a p : Addr) (W : World) (ha : W.cell? a = some (.pointer (some p))) :
    (ReflectliteValue.method (ReflectliteValue.valueError "reflectlite.Value.Elem" 0) ReflectliteValue.elem #[.agg #[.pointer (some ⟨2, 83, none⟩), .pointer (some a), .int .u64 150]]).run Tryd.prog W
      = .ok (.agg #[.pointer (some ⟨2, 66, none⟩), .pointer (some p), .int .u64 409]) W := by
  rw [Go.Lib.rl_method]
  simp only [Sem.run_bind, aPartsP, Result.andThen]
  simp [ReflectliteValue.elem, loadVar, isAgg, underlying, Tryd.underlying83, ha, Result.andThen, aElemOfP, aMkW]
theorem aPartsA (a : Addr) (w : World) : (ReflectliteValue.parts (.agg #[.pointer (some ⟨2, 66, none⟩), .pointer (some a), .int .u64 409])).run Tryd.prog w = .ok (some (66, a, 409)) w := by kernel_rfl
theorem aPartsW (a : Addr) (w : World) : (ReflectliteValue.parts (.agg #[.pointer (some ⟨2, 66, none⟩), .pointer (some a), .int .u64 153])).run Tryd.prog w = .ok (some (66, a, 153)) w := by kernel_rfl
theorem aDirectW (w : World) : (Rtype.directlyAssignable 66 66).run Tryd.prog w = .ok true w := by kernel_rfl
theorem aSizeW (w : World) : (sizeOf 66).run Tryd.prog w = .ok 2 w := by kernel_rfl
theorem aAggW (w : World) : (isAgg 66).run Tryd.prog w = .ok true w := by kernel_rfl
theorem aLoadW (b : Nat) (v0 v1 : Value) (W : World) (hb : Blk W b #[v0, v1] 66) : (loadVar 66 ⟨b, 0, none⟩).run Tryd.prog W = .ok (.agg #[v0, v1]) W := by
  have h0 := hb.cell 0
  have h1 := hb.cell 1
  simp [loadVar, loadCells, loadCellsFrom, Result.andThen, Addr.add, h0, h1]
/-- A store of both cells. -/
theorem aStoreW (b : Nat) (v0 v1 u0 u1 : Value) (W : World) (hb : Blk W b #[u0, u1] 66) (o0 : v0.oneCell' = true) (o1 : v1.oneCell' = true) :
    (storeVar 66 ⟨b, 0, none⟩ (.agg #[v0, v1])).run Tryd.prog W = .ok () ((W.setCell ⟨b, 0, none⟩ v0).setCell ⟨b, 1, none⟩ v1) := by
  have h0 := hb.cell 0
  have f0 := hb.free 0
  have h1 := (hb.set 0 v0).cell 1
  have f1 := (hb.set 0 v0).free 1
  simp [storeVar, Value.cells, storeCells, Addr.add, Result.andThen]
  rw [run_store Tryd.prog W ⟨b, 0, none⟩ _ _ o0]
  simp [h0, f0]
  rw [run_store Tryd.prog _ ⟨b, 1, none⟩ _ _ o1]
  simp [h1, f1]
/-- (Value).Set. -/
theorem aSetW (b c : Nat) (s : ByteArray) (n : Int) (u0 u1 : Value) (W : World) (hc : Blk W c #[.string s, .int .i64 n] 66) (hb : Blk W b #[u0, u1] 66) :
    (ReflectliteValue.set #[.agg #[.pointer (some ⟨2, 66, none⟩), .pointer (some ⟨b, 0, none⟩), .int .u64 409], .agg #[.pointer (some ⟨2, 66, none⟩), .pointer (some ⟨c, 0, none⟩), .int .u64 153]]).run Tryd.prog W
      = .ok (.tuple #[]) ((W.setCell ⟨b, 0, none⟩ (.string s)).setCell ⟨b, 1, none⟩ (.int .i64 n)) := by
  show Sem.run Tryd.prog (ReflectliteValue.parts (.agg #[.pointer (some ⟨2, 66, none⟩), .pointer (some ⟨b, 0, none⟩), .int .u64 409]) >>= fun _ => ReflectliteValue.parts (.agg #[.pointer (some ⟨2, 66, none⟩), .pointer (some ⟨c, 0, none⟩), .int .u64 153]) >>= _) W = _
  simp only [Sem.run_bind, aPartsA, aPartsW, Result.andThen]
  simp [ReflectliteValue.flagAddr, Result.andThen, aLoadW c _ _ W hc, aDirectW, aStoreW b (.string s) (.int .i64 n) u0 u1 W hb rfl rfl]
end Go.Proofs.YtnlnbgcmmlpniaaDoor
