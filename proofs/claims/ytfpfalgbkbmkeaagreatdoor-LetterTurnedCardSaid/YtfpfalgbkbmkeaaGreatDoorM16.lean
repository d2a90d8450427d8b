/-
  WHAT IS PROVED: closed facts on the entries by which errors.As of Go's own text is walked, where package frame calls it: with a target of its type 'number', of an error of that type, or of its type 'wrongLength' (which wraps such a one). Conditions: those typed in each theorem. · errors.As of Go's own text, walked, with a target of package frame's type 'number', of an error of that type, and of one of its type 'wrongLength', which wraps such a one: true, and the target holds the number. Conditions: those typed in each theorem. · package frame's Sum is crcL, for every slice of bytes; sumAt is what four bytes say. Conditions: those typed in each theorem. · more words for a row of bytes that the call owns: where it lies, that it may be written, a store into it. Over any program. · package frame's Seal: what it answers, as the chapter says. Conditions: those typed in each theorem. · letter.Encode answers a good letter's bytes in their frame (encB), else ErrForm. Conditions: those typed in each theorem. · plain facts: what a frame is of, out of the sum of what stands ahead of its last four bytes and of these. No program is spoken of. · package frame's sumAt and length: what they answer, as the chapter says. Conditions: those typed in each theorem.
-/
import Derived.Test.YtfpfalgbkbmkeaaGreatDoorM15
import Derived.WalkKit
import Derived.LaidEql
import Derived.Stop.Asserts
import Derived.RowKitTokens
import Derived.Lib.ReflectliteSlice
import Derived.Laws.BitsLemmas
import Derived.Lib.EndianBits
import Derived.Test.YtfpfalgbkbmkeaaGreatDoorM0
import Derived.Laws.MakeOwn
import Derived.Test.YtfpfalgbkbmkeaaGreatDoorLtIns
import Derived.Test.YtfpfalgbkbmkeaaGreatDoorFastH
import GoSem.Claim
namespace Go.Proofs.YtfpfalgbkbmkeaaGreatDoor
open Go.RowKit Go.Extern.Stop Go.Stop Go.Extern

theorem faValueOfP (t : Addr) (w : World) : (ReflectliteValue.unpack (.iface 168 (.pointer (some t)))).run Tryz.prog w
    = .ok (.agg #[.pointer (some ⟨3, 168, none⟩), .pointer (some ⟨w.heap.size, 0, none⟩), .int .u64 150]) (w.alloc (.cells #[.pointer (some t)] 168)) := by kernel_rfl
theorem faTypeP (a : Addr) (w : World) : (ReflectliteValue.methodAny (ReflectliteValue.valueError "reflectlite.Value.Type" 0) (fun t _ _ _ => ReflectliteType.toType t) #[.agg #[.pointer (some ⟨3, 168, none⟩), .pointer (some a), .int .u64 150]]).run Tryz.prog w
    = .ok (.iface 261 (.agg #[.pointer (some ⟨3, 168, none⟩)])) w := by kernel_rfl
theorem faMKind (h : Value) (w : World) : (Go.method 431 261 (.agg #[h]) "Kind").run Tryz.prog w = .ok (235, h) w := by kernel_rfl
theorem faMElem (h : Value) (w : World) : (Go.method 431 261 (.agg #[h]) "Elem").run Tryz.prog w = .ok (248, .agg #[h]) w := by kernel_rfl
theorem faMImplements (h : Value) (w : World) : (Go.method 431 261 (.agg #[h]) "Implements").run Tryz.prog w = .ok (249, .agg #[h]) w := by kernel_rfl
theorem faMAssignableTo (h : Value) (w : World) : (Go.method 431 261 (.agg #[h]) "AssignableTo").run Tryz.prog w = .ok (246, .agg #[h]) w := by kernel_rfl
/-- The model's entry of (*abi.Type).Kind, as it is found. -/
noncomputable def feKind : Array Value → Sem Value := (Go.Extern.find Tryz.f235).getD fun _ => pure .nilIface
theorem faKindP (w : World) : (feKind #[.pointer (some ⟨3, 168, none⟩)]).run Tryz.prog w = .ok (.int .u8 22) w := by kernel_rfl
theorem faKindW (w : World) : (feKind #[.pointer (some ⟨3, 166, none⟩)]).run Tryz.prog w = .ok (.int .u8 2) w := by kernel_rfl
theorem faElemP (w : World) : (ReflectliteType.method ReflectliteType.elem #[.agg #[.pointer (some ⟨3, 168, none⟩)]]).run Tryz.prog w = .ok (.iface 261 (.agg #[.pointer (some ⟨3, 166, none⟩)])) w := by kernel_rfl
theorem faImplementsW (w : World) : (ReflectliteType.relation "Implements" ReflectliteType.implements_ #[.agg #[.pointer (some ⟨3, 166, none⟩)], .iface 261 (.agg #[.pointer (some ⟨3, 115, none⟩)])]).run Tryz.prog w = .ok (.bool true) w := by kernel_rfl
theorem faTypeOfW (v : Value) (w : World) : (ReflectliteType.typeOf #[.iface 166 v]).run Tryz.prog w = .ok (.iface 261 (.agg #[.pointer (some ⟨3, 166, none⟩)])) w := by kernel_rfl
theorem faAssignableW (w : World) : (ReflectliteType.relation "AssignableTo" ReflectliteType.assignableTo #[.agg #[.pointer (some ⟨3, 166, none⟩)], .iface 261 (.agg #[.pointer (some ⟨3, 166, none⟩)])]).run Tryz.prog w = .ok (.bool true) w := by kernel_rfl
theorem faValueOfW (n : Int) (w : World) : (ReflectliteValue.unpack (.iface 166 (.int .i64 n))).run Tryz.prog w
    = .ok (.agg #[.pointer (some ⟨3, 166, none⟩), .pointer (some ⟨w.heap.size, 0, none⟩), .int .u64 130]) (w.alloc (.cells #[.int .i64 n] 166)) := by kernel_rfl

theorem faPartsP (a : Addr) (w : World) : (ReflectliteValue.parts (.agg #[.pointer (some ⟨3, 168, none⟩), .pointer (some a), .int .u64 150])).run Tryz.prog w = .ok (some (168, a, 150)) w := by kernel_rfl
/-- (Value).IsNil of the target. -/
theorem faIsNilP (a p : Addr) (W : World) (ha : W.cell? a = some (.pointer (some p))) :
    (ReflectliteValue.method (ReflectliteValue.valueError "reflectlite.Value.IsNil" 0) ReflectliteValue.isNil #[.agg #[.pointer (some ⟨3, 168, none⟩), .pointer (some a), .int .u64 150]]).run Tryz.prog W = .ok (.bool false) W := by
  rw [Go.Lib.rl_method]
  simp only [Sem.run_bind, faPartsP, Result.andThen]
  simp [ReflectliteValue.isNil, loadVar, isAgg, underlying, Tryz.underlying168, ha, Result.andThen]
theorem faElemOfP (w : World) : (Rtype.elem? 168).run Tryz.prog w = .ok (some 166) w := by kernel_rfl
theorem faMkW (p : Addr) (w : World) : (ReflectliteValue.mk 166 p ReflectliteValue.flagAddr).run Tryz.prog w = .ok (.agg #[.pointer (some ⟨3, 166, none⟩), .pointer (some p), .int .u64 386]) w := by kernel_rfl
/-- (Value).Elem of the target: what it points to, addressable. -/
theorem faElemVP (a p : Addr) (W : World) (ha : W.cell? a = some (.pointer (some p))) :
    (ReflectliteValue.method (ReflectliteValue.valueError "reflectlite.Value.Elem" 0) ReflectliteValue.elem #[.agg #[.pointer (some ⟨3, 168, none⟩), .pointer (some a), .int .u64 150]]).run Tryz.prog W
      = .ok (.agg #[.pointer (some ⟨3, 166, none⟩), .pointer (some p), .int .u64 386]) W := by
  rw [Go.Lib.rl_method]
  simp only [Sem.run_bind, faPartsP, Result.andThen]
  simp [ReflectliteValue.elem, loadVar, isAgg, underlying, Tryz.underlying168, ha, Result.andThen, faElemOfP, faMkW]
theorem faPartsA (a : Addr) (w : World) : (ReflectliteValue.parts (.agg #[.pointer (some ⟨3, 166, none⟩), .pointer (some a), .int .u64 386])).run Tryz.prog w = .ok (some (166, a, 386)) w := by kernel_rfl
theorem faPartsW (a : Addr) (w : World) : (ReflectliteValue.parts (.agg #[.pointer (some ⟨3, 166, none⟩), .pointer (some a), .int .u64 130])).run Tryz.prog w = .ok (some (166, a, 130)) w := by kernel_rfl
theorem faDirectW (w : World) : (Rtype.directlyAssignable 166 166).run Tryz.prog w = .ok true w := by kernel_rfl
theorem faSizeW (w : World) : (sizeOf 166).run Tryz.prog w = .ok 1 w := by kernel_rfl
theorem faAggW (w : World) : (isAgg 166).run Tryz.prog w = .ok false w := by kernel_rfl
theorem faLoadW (b : Nat) (v : Value) (W : World) (hb : Blk W b #[v] 166) : (loadVar 166 ⟨b, 0, none⟩).run Tryz.prog W = .ok v W := by
  have h0 := hb.cell 0
  simp [loadVar, Result.andThen, h0, isAgg, underlying, Tryz.underlying166]
theorem faStoreW (b : Nat) (n : Int) (u : Value) (W : World) (hb : Blk W b #[u] 166) :
    (storeVar 166 ⟨b, 0, none⟩ (.int .i64 n)).run Tryz.prog W = .ok () (W.setCell ⟨b, 0, none⟩ (.int .i64 n)) := by
  have h0 := hb.cell 0
  have f0 := hb.free 0
  simp [storeVar, Value.cells, storeCells, Addr.add, Result.andThen]
  rw [run_store Tryz.prog W ⟨b, 0, none⟩ _ _ rfl]
  simp [h0, f0]
/-- (Value).Set. -/
theorem faSetW (b c : Nat) (n : Int) (u : Value) (W : World) (hc : Blk W c #[.int .i64 n] 166) (hb : Blk W b #[u] 166) :
    (ReflectliteValue.set #[.agg #[.pointer (some ⟨3, 166, none⟩), .pointer (some ⟨b, 0, none⟩), .int .u64 386], .agg #[.pointer (some ⟨3, 166, none⟩), .pointer (some ⟨c, 0, none⟩), .int .u64 130]]).run Tryz.prog W
      = .ok (.tuple #[]) (W.setCell ⟨b, 0, none⟩ (.int .i64 n)) := by
  show Sem.run Tryz.prog (ReflectliteValue.parts (.agg #[.pointer (some ⟨3, 166, none⟩), .pointer (some ⟨b, 0, none⟩), .int .u64 386]) >>= fun _ => ReflectliteValue.parts (.agg #[.pointer (some ⟨3, 166, none⟩), .pointer (some ⟨c, 0, none⟩), .int .u64 130]) >>= _) W = _
  simp only [Sem.run_bind, faPartsA, faPartsW, Result.andThen]
  simp [ReflectliteValue.flagAddr, Result.andThen, faLoadW c _ W hc, faDirectW, faStoreW b n u W hb]

/-! The other error type. -/
theorem aTypeOfL (v : Value) (w : World) : (ReflectliteType.typeOf #[.iface 93 v]).run Tryz.prog w = .ok (.iface 261 (.agg #[.pointer (some ⟨3, 93, none⟩)])) w := by kernel_rfl
theorem aAssignableL (w : World) : (ReflectliteType.relation "AssignableTo" ReflectliteType.assignableTo #[.agg #[.pointer (some ⟨3, 93, none⟩)], .iface 261 (.agg #[.pointer (some ⟨3, 166, none⟩)])]).run Tryz.prog w = .ok (.bool false) w := by kernel_rfl
theorem aNoAs (v : Value) (xT : TypeId) (w : World) : (Instr.typeAssert (.iface 93 v) xT 266 true).run Tryz.prog w = .ok (.tuple #[.nilIface, .bool false]) w := run_typeAssert_lacksB Tryz.underlying266 (by kernel_rfl) (by kernel_rfl) v xT w
theorem aUnwraps (v : Value) (xT : TypeId) (w : World) : (Instr.typeAssert (.iface 93 v) xT 269 true).run Tryz.prog w = .ok (.tuple #[.iface 93 v, .bool true]) w := run_typeAssert_hasB Tryz.underlying269 (by kernel_rfl) v xT w
theorem aMUnwrap (v : Value) (w : World) : (Go.method 431 93 v "Unwrap").run Tryz.prog w = .ok (239, v) w := by kernel_rfl
/-- errors.As(nil, ..). -/
theorem fas_nil (t : Value) (w : World) :
    Calls Tryz.prog 92 #[.nilIface, t] w fun e w' => e = .returned (.bool false) ∧ w' = w := by
  go_enter Tryz.func92, Tryz.ntmps92
  go_wp2
  go_ret
  exact ⟨rfl, rfl⟩
/-- What an error that tells a length wraps. -/
theorem unwrap_any (l n : Int) (w : World) :
    Calls Tryz.prog 239 #[.agg #[.int .i64 l, .int .i64 n]] w fun e w' => e = .returned (.iface 166 (.int .i64 n)) ∧ w' = w.alloc (.cells #[.int .i64 l, .int .i64 n] 93) := by
  go_enter Tryz.func239, Tryz.ntmps239
  go_wp2
  go_ret
  exact ⟨rfl, rfl⟩
end Go.Proofs.YtfpfalgbkbmkeaaGreatDoor

namespace Go.Proofs.YtfpfalgbkbmkeaaGreatDoor
open Go.RowKit Go.Extern.Stop Go.Stop Go.Extern

set_option maxRecDepth 100000 in
set_option maxHeartbeats 4000000 in
theorem fas_hit (b : Nat) (n : Int) (u : Value) (w : World) (hg : w.cell? ⟨1, 0, none⟩ = some (.iface 261 (.agg #[.pointer (some ⟨3, 115, none⟩)]))) (hb : Blk w b #[u] 166) :
    Calls Tryz.prog 92 #[.iface 166 (.int .i64 n), .iface 168 (.pointer (some ⟨b, 0, none⟩))] w fun ev w' => ev = .returned (.bool true) ∧ Blk w' b #[.int .i64 n] 166 ∧ Below b w w' := by
  have x1 := @run_callFunc_extern Tryz.prog 157 _ (fun args => ReflectliteValue.unpack (args.getD 0 (.tuple #[]))) Tryz.func157 (by kernel_rfl) (by kernel_rfl) (by kernel_rfl) (by kernel_rfl)
  have x2 := @run_callFunc_extern Tryz.prog 158 _ (ReflectliteValue.methodAny (ReflectliteValue.valueError "reflectlite.Value.Type" 0) (fun t _ _ _ => ReflectliteType.toType t)) Tryz.func158 (by kernel_rfl) (by kernel_rfl) (by kernel_rfl) (by kernel_rfl)
  have x3 := @run_callFunc_extern Tryz.prog 159 _ (ReflectliteValue.method (ReflectliteValue.valueError "reflectlite.Value.IsNil" 0) ReflectliteValue.isNil) Tryz.func159 (by kernel_rfl) (by kernel_rfl) (by kernel_rfl) (by kernel_rfl)
  have x4 := @run_callFunc_extern Tryz.prog 235 _ feKind Tryz.func235 (by kernel_rfl) (by kernel_rfl) (by kernel_rfl) (by kernel_rfl)
  have x5 := @run_callFunc_extern Tryz.prog 248 _ (ReflectliteType.method ReflectliteType.elem) Tryz.func248 (by kernel_rfl) (by kernel_rfl) (by kernel_rfl) (by kernel_rfl)
  have x6 := @run_callFunc_extern Tryz.prog 249 _ (ReflectliteType.relation "Implements" ReflectliteType.implements_) Tryz.func249 (by kernel_rfl) (by kernel_rfl) (by kernel_rfl) (by kernel_rfl)
  have x7 := @run_callFunc_extern Tryz.prog 190 _ ReflectliteType.typeOf Tryz.func190 (by kernel_rfl) (by kernel_rfl) (by kernel_rfl) (by kernel_rfl)
  have x8 := @run_callFunc_extern Tryz.prog 246 _ (ReflectliteType.relation "AssignableTo" ReflectliteType.assignableTo) Tryz.func246 (by kernel_rfl) (by kernel_rfl) (by kernel_rfl) (by kernel_rfl)
  have x9 := @run_callFunc_extern Tryz.prog 191 _ (ReflectliteValue.method (ReflectliteValue.valueError "reflectlite.Value.Elem" 0) ReflectliteValue.elem) Tryz.func191 (by kernel_rfl) (by kernel_rfl) (by kernel_rfl) (by kernel_rfl)
  have x10 := @run_callFunc_extern Tryz.prog 192 _ ReflectliteValue.set Tryz.func192 (by kernel_rfl) (by kernel_rfl) (by kernel_rfl) (by kernel_rfl)
  have v1 := faValueOfP
  have v2 := faTypeP
  have m1 := faMKind
  have m2 := faMElem
  have m3 := faMImplements
  have m4 := faMAssignableTo
  have k1 := faKindP
  have k2 := faKindW
  have e1 := faElemP
  have i1 := faImplementsW
  have t1 := faTypeOfW
  have a1 := faAssignableW
  have v3 := faValueOfW
  have hlg : 1 < w.heap.size := World.block_lt_of_cell? w _ hg
  have hlb := hb.lt
  let W1 := w.alloc (.cells #[.pointer (some ⟨b, 0, none⟩)] 168)
  let C : Array Value := #[.pointer (some ⟨3, 168, none⟩), .pointer (some ⟨w.heap.size, 0, none⟩), .int .u64 150]
  let W2 := W1.alloc (.cells C 234)
  let W3 := W2.alloc (.cells C 234)
  let W4 := W3.alloc (.cells #[.int .i64 n] 166)
  have c1 : W2.cell? ⟨w.heap.size, 0, none⟩ = some (.pointer (some ⟨b, 0, none⟩)) := ((blk_new w #[.pointer (some ⟨b, 0, none⟩)] 168).alloc _).cell 0
  have c2 : W3.cell? ⟨w.heap.size, 0, none⟩ = some (.pointer (some ⟨b, 0, none⟩)) := (((blk_new w #[.pointer (some ⟨b, 0, none⟩)] 168).alloc _).alloc _).cell 0
  have n8 := faIsNilP ⟨w.heap.size, 0, none⟩ ⟨b, 0, none⟩ W2 c1
  have hg2 : W2.cell? ⟨1, 0, none⟩ = some (.iface 261 (.agg #[.pointer (some ⟨3, 115, none⟩)])) := by
    have hB : Below w.heap.size w W2 := ((Below.refl _ w).alloc (Nat.le_refl _) _).alloc (by simp) _
    exact (hB.cell hlg).trans hg
  have el := faElemVP ⟨w.heap.size, 0, none⟩ ⟨b, 0, none⟩ W3 c2
  have hz3 : W3.heap.size = w.heap.size + 1 + 1 + 1 := by simp [W3, W2, W1]
  have st := faSetW b (w.heap.size + 1 + 1 + 1) n u W4 (blk_at (w := W3) hz3.symm _ _) ((((hb.alloc _).alloc _).alloc _).alloc _)
  have hfin : Blk (W4.setCell ⟨b, 0, none⟩ (.int .i64 n)) b #[.int .i64 n] 166 := ((((hb.alloc _).alloc _).alloc _).alloc _).set 0 (.int .i64 n)
  have hbel : Below b w (W4.setCell ⟨b, 0, none⟩ (.int .i64 n)) := by
    have h4 : Below w.heap.size w W4 := ba (ba (ba (b0 w _) _) _) _
    exact (h4.mono (Nat.le_of_lt hlb)).setCell (p := ⟨b, 0, none⟩) (Nat.le_refl _) _
  have HF := Lib.hid (And.intro hfin hbel)
  clear hfin hbel c1 c2 hz3
  simp only [W1, W2, W3, W4, C] at *
  go_enter Tryz.func92, Tryz.ntmps92
  go_wp2
  refine wp_loop_rounds 1 ?_
  rw [rounds_succ]
  go_wp2
  go_ret
  exact ⟨rfl, HF.out.1, HF.out.2⟩
set_option maxRecDepth 100000 in
set_option maxHeartbeats 4000000 in
theorem as_wrap (b : Nat) (l n : Int) (u : Value) (w : World) (hg : w.cell? ⟨1, 0, none⟩ = some (.iface 261 (.agg #[.pointer (some ⟨3, 115, none⟩)]))) (hb : Blk w b #[u] 166) :
    Calls Tryz.prog 92 #[.iface 93 (.agg #[.int .i64 l, .int .i64 n]), .iface 168 (.pointer (some ⟨b, 0, none⟩))] w fun ev w' => ev = .returned (.bool true) ∧ Blk w' b #[.int .i64 n] 166 ∧ Below b w w' := by
  have x1 := @run_callFunc_extern Tryz.prog 157 _ (fun args => ReflectliteValue.unpack (args.getD 0 (.tuple #[]))) Tryz.func157 (by kernel_rfl) (by kernel_rfl) (by kernel_rfl) (by kernel_rfl)
  have x2 := @run_callFunc_extern Tryz.prog 158 _ (ReflectliteValue.methodAny (ReflectliteValue.valueError "reflectlite.Value.Type" 0) (fun t _ _ _ => ReflectliteType.toType t)) Tryz.func158 (by kernel_rfl) (by kernel_rfl) (by kernel_rfl) (by kernel_rfl)
  have x3 := @run_callFunc_extern Tryz.prog 159 _ (ReflectliteValue.method (ReflectliteValue.valueError "reflectlite.Value.IsNil" 0) ReflectliteValue.isNil) Tryz.func159 (by kernel_rfl) (by kernel_rfl) (by kernel_rfl) (by kernel_rfl)
  have x4 := @run_callFunc_extern Tryz.prog 235 _ feKind Tryz.func235 (by kernel_rfl) (by kernel_rfl) (by kernel_rfl) (by kernel_rfl)
  have x5 := @run_callFunc_extern Tryz.prog 248 _ (ReflectliteType.method ReflectliteType.elem) Tryz.func248 (by kernel_rfl) (by kernel_rfl) (by kernel_rfl) (by kernel_rfl)
  have x6 := @run_callFunc_extern Tryz.prog 249 _ (ReflectliteType.relation "Implements" ReflectliteType.implements_) Tryz.func249 (by kernel_rfl) (by kernel_rfl) (by kernel_rfl) (by kernel_rfl)
  have x7 := @run_callFunc_extern Tryz.prog 190 _ ReflectliteType.typeOf Tryz.func190 (by kernel_rfl) (by kernel_rfl) (by kernel_rfl) (by kernel_rfl)
  have x8 := @run_callFunc_extern Tryz.prog 246 _ (ReflectliteType.relation "AssignableTo" ReflectliteType.assignableTo) Tryz.func246 (by kernel_rfl) (by kernel_rfl) (by kernel_rfl) (by kernel_rfl)
  have x9 := @run_callFunc_extern Tryz.prog 191 _ (ReflectliteValue.method (ReflectliteValue.valueError "reflectlite.Value.Elem" 0) ReflectliteValue.elem) Tryz.func191 (by kernel_rfl) (by kernel_rfl) (by kernel_rfl) (by kernel_rfl)
  have x10 := @run_callFunc_extern Tryz.prog 192 _ ReflectliteValue.set Tryz.func192 (by kernel_rfl) (by kernel_rfl) (by kernel_rfl) (by kernel_rfl)
  have v1 := faValueOfP
  have v2 := faTypeP
  have m1 := faMKind
  have m2 := faMElem
  have m3 := faMImplements
  have m4 := faMAssignableTo
  have k1 := faKindP
  have k2 := faKindW
  have e1 := faElemP
  have i1 := faImplementsW
  have t1 := faTypeOfW
  have a1 := faAssignableW
  have v3 := faValueOfW
  have t2 := aTypeOfL
  have a2 := aAssignableL
  have nA := aNoAs
  have uW := aUnwraps
  have mU := aMUnwrap
  have hlg : 1 < w.heap.size := World.block_lt_of_cell? w _ hg
  have hlb := hb.lt
  let W1 := w.alloc (.cells #[.pointer (some ⟨b, 0, none⟩)] 168)
  let C : Array Value := #[.pointer (some ⟨3, 168, none⟩), .pointer (some ⟨w.heap.size, 0, none⟩), .int .u64 150]
  let W2 := W1.alloc (.cells C 234)
  let W3 := W2.alloc (.cells C 234)
  let W4 := W3.alloc (.cells #[.int .i64 l, .int .i64 n] 93)
  let W5 := W4.alloc (.cells #[.int .i64 n] 166)
  have c1 : W2.cell? ⟨w.heap.size, 0, none⟩ = some (.pointer (some ⟨b, 0, none⟩)) := ((blk_new w #[.pointer (some ⟨b, 0, none⟩)] 168).alloc _).cell 0
  have c2 : W4.cell? ⟨w.heap.size, 0, none⟩ = some (.pointer (some ⟨b, 0, none⟩)) := ((((blk_new w #[.pointer (some ⟨b, 0, none⟩)] 168).alloc _).alloc _).alloc _).cell 0
  have n8 := faIsNilP ⟨w.heap.size, 0, none⟩ ⟨b, 0, none⟩ W2 c1
  have hg2 : W2.cell? ⟨1, 0, none⟩ = some (.iface 261 (.agg #[.pointer (some ⟨3, 115, none⟩)])) := by
    have hB : Below w.heap.size w W2 := ((Below.refl _ w).alloc (Nat.le_refl _) _).alloc (by simp) _
    exact (hB.cell hlg).trans hg
  have el := faElemVP ⟨w.heap.size, 0, none⟩ ⟨b, 0, none⟩ W4 c2
  have hz3 : W4.heap.size = w.heap.size + 1 + 1 + 1 + 1 := by simp [W4, W3, W2, W1]
  have st := faSetW b (w.heap.size + 1 + 1 + 1 + 1) n u W5 (blk_at (w := W4) hz3.symm _ _) (((((hb.alloc _).alloc _).alloc _).alloc _).alloc _)
  have hfin : Blk (W5.setCell ⟨b, 0, none⟩ (.int .i64 n)) b #[.int .i64 n] 166 := (((((hb.alloc _).alloc _).alloc _).alloc _).alloc _).set 0 (.int .i64 n)
  have hbel : Below b w (W5.setCell ⟨b, 0, none⟩ (.int .i64 n)) := by
    have h4 : Below w.heap.size w W5 := ba (ba (ba (ba (b0 w _) _) _) _) _
    exact (h4.mono (Nat.le_of_lt hlb)).setCell (p := ⟨b, 0, none⟩) (Nat.le_refl _) _
  have HF := Lib.hid (And.intro hfin hbel)
  clear hfin hbel c1 c2 hz3
  simp only [W1, W2, W3, W4, W5, C] at *
  go_enter Tryz.func92, Tryz.ntmps92
  go_wp2
  refine wp_loop_rounds 2 ?_
  rw [rounds_succ]
  go_wp2
  rw [rounds_succ]
  go_wp2
  go_ret
  exact ⟨rfl, HF.out.1, HF.out.2⟩

/-- An error of package frame, with its number; 0: none. -/
def ErrF (v : Value) (n : Nat) : Prop :=
  (v = .nilIface ∧ n = 0) ∨ v = .iface 166 (.int .i64 (n : Nat)) ∨ ∃ l : Int, v = .iface 93 (.agg #[.int .i64 l, .int .i64 (n : Nat)])
theorem fanswer_any (v : Value) (n : Nat) (w : World) (hL : LaidF w) (hv : ErrF v n) :
    Calls Tryz.prog 40 #[v] w fun e w' => e = .returned (.int .i64 (n : Nat)) ∧ Below w.heap.size w w' := by
  have hg := (hL.keep (b0 w (.cells #[.int .i64 0] 166))).2
  have hb := blk_new w #[.int .i64 0] 166
  have hB := b0 w (.cells #[.int .i64 0] 166)
  rcases hv with ⟨rfl, rfl⟩ | rfl | ⟨l, rfl⟩
  · go_enter Tryz.func40, Tryz.ntmps40
    go_wp2_with fail
    refine (fas_nil _ _).mono ?_
    rintro e w1 ⟨rfl, rfl⟩
    go_wp2_with fail
    go_ret
    exact ⟨rfl, hB⟩
  · have hc := fas_hit w.heap.size (n : Nat) (.int .i64 0) _ hg hb
    clear hg hb
    go_enter Tryz.func40, Tryz.ntmps40
    go_wp2_with fail
    refine hc.mono ?_
    rintro e w1 ⟨rfl, hb1, hB1⟩
    have c0 := hb1.cell 0
    have hB2 := hB.trans hB1
    clear hc
    go_wp2_with fail
    go_ret
    exact ⟨rfl, hB2⟩
  · have hc := as_wrap w.heap.size l (n : Nat) (.int .i64 0) _ hg hb
    clear hg hb
    go_enter Tryz.func40, Tryz.ntmps40
    go_wp2_with fail
    refine hc.mono ?_
    rintro e w1 ⟨rfl, hb1, hB1⟩
    have c0 := hb1.cell 0
    have hB2 := hB.trans hB1
    clear hc
    go_wp2_with fail
    go_ret
    exact ⟨rfl, hB2⟩
end Go.Proofs.YtfpfalgbkbmkeaaGreatDoor

namespace Go.Proofs.YtfpfalgbkbmkeaaGreatDoor
open Go.RowKit

theorem xor_u32 (a b : Nat) (ha : a < 4294967296) (hb : b < 4294967296) : bits .xor .u32 (a : Int) (b : Int) = ((a ^^^ b : Nat) : Int) := by
  have hx : a ^^^ b < 2 ^ 32 := Nat.xor_lt_two_pow (by omega) (by omega)
  have h1 : (BitVec.ofInt 32 (a : Int)).toNat = a := by
    rw [BitVec.ofInt_natCast, BitVec.toNat_ofNat]
    exact Nat.mod_eq_of_lt (by omega)
  have h2 : (BitVec.ofInt 32 (b : Int)).toNat = b := by
    rw [BitVec.ofInt_natCast, BitVec.toNat_ofNat]
    exact Nat.mod_eq_of_lt (by omega)
  show IntKind.u32.wrap ((BitVec.ofInt 32 (a : Int) ^^^ BitVec.ofInt 32 (b : Int)).toNat : Int) = _
  rw [BitVec.toNat_xor, h1, h2, IntKind.wrap_u32]
  omega
theorem and15_u32 (a : Nat) (ha : a < 4294967296) : bits .and .u32 (a : Int) 15 = ((a % 16 : Nat) : Int) := by
  have h := bits_mask .u32 32 (by decide) wraps_u32 4 (by decide) (a : Int) (by omega) (by omega)
  rw [show ((2 : Int) ^ 4 - 1) = 15 by decide, show ((2 : Int) ^ 4) = 16 by decide] at h
  rw [h]
  omega
theorem not_u32 (a : Nat) (ha : a < 4294967296) : bits .xor .u32 IntKind.u32.max (a : Int) = ((4294967295 - a : Nat) : Int) := by
  have h2 : (BitVec.ofInt 32 (a : Int)).toNat = a := by
    rw [BitVec.ofInt_natCast, BitVec.toNat_ofNat]
    exact Nat.mod_eq_of_lt (by omega)
  have h1 : BitVec.ofInt 32 IntKind.u32.max = BitVec.allOnes 32 := by decide
  show IntKind.u32.wrap ((BitVec.ofInt 32 IntKind.u32.max ^^^ BitVec.ofInt 32 (a : Int)).toNat : Int) = _
  rw [h1, BitVec.allOnes_xor, BitVec.toNat_not, h2, IntKind.wrap_u32]
  omega

set_option maxRecDepth 100000 in
set_option maxHeartbeats 4000000 in
theorem sum_any {B : Nat} (A : Option Addr) (n c : Nat) (l : List UInt8) (w : World) (hL : LaidF w) (hn : l.length = n) (hr : RdB B w A l) (hm : n ≤ 1000000000) :
    Calls Tryz.prog 41 #[.slice A n c] w fun e w' => e = .returned (.int .u32 (crcL l : Nat)) ∧ w = w' := by
  have HN := Lib.hid hn
  have HL := Lib.hid hL.1
  clear hn hL
  go_enter Tryz.func41, Tryz.ntmps41
  go_wp2_with fail
  go_loopw [3, 8] (fun x i wr => ∃ (k s : Nat), k ≤ n ∧ x = .int .u32 s ∧ i = .int .i64 k ∧ Hid (s = crcTo 4294967295 (l.take k)) ∧ s < 4294967296 ∧ w = wr) (fun _ i _ => n - (intOf i).toNat)
  case atStart => exact ⟨0, 4294967295, Nat.zero_le _, rfl, rfl, rfl, by omega, rfl⟩
  case round =>
    obtain ⟨k, s, hk, rfl, rfl, hS, hs, rfl⟩ := hrel
    by_cases hlt : k < n
    · obtain ⟨ad, rfl, _, hc⟩ := hr.at_ (show k < l.length by have := HN.out; omega)
      have i1 : (0 : Int) ≤ (k : Int) := by omega
      have i2 : (k : Int) < (n : Int) := by omega
      have hlk : k < l.length := by have := HN.out; omega
      have HX : Hid (l.take (k + 1) = l.take k ++ [l[k]]) := List.take_succ_eq_append_getElem hlk
      generalize l[k] = x at hc HX
      have hx := byte_lt x
      have hx2 := xor_lt hs hx
      have HS2 : Hid (crcSteps 4 (crcSteps 4 (s ^^^ x.toNat)) = crcTo 4294967295 (l.take (k + 1))) := by
        show _ = _
        rw [HX.out, crcTo_snoc, ← hS.out, crcByte_nib]
      have E0 := xor_u32 s x.toNat hs hx
      generalize s ^^^ x.toNat = s0 at hx2 HS2 E0
      have E1 := and15_u32 s0 hx2
      have m1 : s0 % 16 < 16 := Nat.mod_lt _ (by omega)
      have c1 := HL.out (s0 % 16) m1
      have l1 : crcSteps 4 s0 < 4294967296 := crcSteps_lt 4 hx2
      have t1 : crcSteps 4 (s0 % 16) < 4294967296 := crcSteps_lt 4 (by omega)
      have D1 : ((s0 : Int) / 16) = ((s0 / 16 : Nat) : Int) := by omega
      have F1 : bits .xor .u32 ((s0 / 16 : Nat) : Int) (crcSteps 4 (s0 % 16) : Nat) = (crcSteps 4 s0 : Nat) := by
        rw [xor_u32 _ _ (by omega) t1, ← nib]
      generalize crcSteps 4 s0 = s1 at l1 F1 HS2
      have E2 := and15_u32 s1 l1
      have m2 : s1 % 16 < 16 := Nat.mod_lt _ (by omega)
      have c2 := HL.out (s1 % 16) m2
      have l2 : crcSteps 4 s1 < 4294967296 := crcSteps_lt 4 l1
      have t2 : crcSteps 4 (s1 % 16) < 4294967296 := crcSteps_lt 4 (by omega)
      have D2 : ((s1 : Int) / 16) = ((s1 / 16 : Nat) : Int) := by omega
      have F2 : bits .xor .u32 ((s1 / 16 : Nat) : Int) (crcSteps 4 (s1 % 16) : Nat) = (crcSteps 4 s1 : Nat) := by
        rw [xor_u32 _ _ (by omega) t2, ← nib]
      rw [← D1] at F1
      rw [← D2] at F2
      generalize crcSteps 4 s1 = s2 at l2 F2 HS2
      generalize crcSteps 4 (s0 % 16) = y1 at c1 F1
      generalize crcSteps 4 (s1 % 16) = y2 at c2 F2
      generalize s0 % 16 = q1 at E1 m1 c1
      generalize s1 % 16 = q2 at E2 m2 c2
      clear D1 D2 t1 t2 HX
      go_wp2_with fail
      go_roundw
      case rel => exact ⟨k + 1, s2, by omega, rfl, by go_num, HS2, l2, by first | rfl | trivial⟩
      case measure => simp [intOf]; omega
    · have i2 : ¬ (k : Int) < (n : Int) := by omega
      have e : k = n := by omega
      subst e
      have R : Hid (crcL l = 4294967295 - s) := by
        show _ = _
        unfold crcL
        rw [hS.out, List.take_of_length_le (by rw [HN.out]; exact Nat.le_refl _)]
      go_wp2_with fail
      go_ret
      rw [R.out]
      refine ⟨?_, rfl⟩
      rw [not_u32 s hs]
      rfl
end Go.Proofs.YtfpfalgbkbmkeaaGreatDoor

namespace Go.Proofs.YtfpfalgbkbmkeaaGreatDoor
open Go.RowKit

theorem OwnB.form {base : Nat} {W : World} {A : Option Addr} {n c : Nat} {l : List UInt8} (h : OwnB base W A n c l) (hn : 0 < n) : ∃ g, A = some ⟨g, 0, none⟩ ∧ base ≤ g ∧ g < W.heap.size := by
  obtain ⟨g, cap, hv, hb, hlt⟩ := World.ownsRow.form h hn
  injection hv with hv
  exact ⟨g, hv, hb, hlt⟩
theorem OwnB.free {base : Nat} {W : World} {g n c : Nat} {l : List UInt8} (h : OwnB base W (some ⟨g, 0, none⟩) n c l) (i : Nat) : W.frozen? ⟨g, i, none⟩ = false := by
  rcases h.2 with ⟨hv, _⟩ | ⟨g', cap, cur, hv, hb, hg, h1, h2, h3, h4⟩
  · cases hv
  · injection hv with hv1 hv2 hv3
    injection hv1 with hv1
    injection hv1 with hv1
    subst hv1
    simp [World.frozen?, hg]
theorem OwnB.cellAt {base : Nat} {W : World} {g n c : Nat} {l : List UInt8} (h : OwnB base W (some ⟨g, 0, none⟩) n c l) {k : Nat} {x : UInt8} (hx : l[k]? = some x) : W.cell? ⟨g, k, none⟩ = some (.int .u8 (x.toNat : Int)) := by
  obtain ⟨ad, he, _, hc⟩ := h.rd k x hx
  injection he with he
  subst he
  have e : (Addr.mk g 0 none).add k = Addr.mk g k none := by unfold Addr.add; split <;> simp_all
  rwa [e] at hc
/-- A store into a row of the call's own. -/
theorem OwnB.set {base : Nat} {W : World} {g n c : Nat} {l : List UInt8} (h : OwnB base W (some ⟨g, 0, none⟩) n c l) (i : Nat) (x : UInt8) : OwnB base (W.setCell ⟨g, i, none⟩ (.int .u8 (x.toNat : Int))) (some ⟨g, 0, none⟩) n c (l.set i x) := by
  rcases h.2 with ⟨hv, _⟩ | ⟨g', cap, cur, hv, hb, hg, h1, h2, h3, h4⟩
  · cases hv
  · injection hv with hv1 hv2 hv3
    injection hv1 with hv1
    injection hv1 with hv1
    subst hv1
    subst hv3
    refine ⟨by simpa using h.1, .inr ⟨g, c, cur.setIfInBounds i (.int .u8 (x.toNat : Int)), rfl, hb, ?_, h1, h2, by simpa using h3, ?_⟩⟩
    · simp [World.setCell, Array.getElem?_modify, hg]
    · rw [Array.toList_setIfInBounds, List.take_set, h4]
      simp [bytV, List.map_set]
end Go.Proofs.YtfpfalgbkbmkeaaGreatDoor

namespace Go.Proofs.YtfpfalgbkbmkeaaGreatDoor
open Go.RowKit

theorem run_make0 (W : World) (n : Nat) (z : Int) (hz : z = (n : Int)) (hn : n ≤ 1000000) :
    (Instr.makeSlice 33 (.int .i64 0) (.int .i64 z)).run Tryz.prog W = .ok (.slice (some ⟨W.heap.size, 0, none⟩) 0 n) (W.alloc (.cells (madeCells #[.int .u8 0] n) 5)) := by
  obtain ⟨i0, hi0, hz0, hz1, hz2⟩ := info_parts byt_info
  subst hz
  have h := run_make W 33 5 i0 (.int .u8 0) Tryz.underlying33 hi0 hz0 .i64 .i64 0 (n : Int) (by omega) (by omega) (by rw [hz2]; omega) (by omega)
  rw [Int.toNat_natCast, hz1, Nat.mul_one] at h
  exact h
theorem ownMade0 (w : World) (n : Nat) (hn : n ≤ 1000000) : OwnB w.heap.size (w.alloc (.cells (madeCells #[.int .u8 0] n) 5)) (some ⟨w.heap.size, 0, none⟩) 0 n [] := by
  refine ⟨rfl, .inr ⟨w.heap.size, n, madeCells #[.int .u8 0] n, rfl, Nat.le_refl _, ?_, Nat.zero_le _, by unfold maxLen; omega, ?_, rfl⟩⟩
  · exact blk_new w _ _
  · simp [madeCells]
set_option maxRecDepth 100000 in
set_option maxHeartbeats 4000000 in
theorem seal_any (k : UInt8) (A : Option Addr) (n c : Nat) (b : List UInt8) (w : World) (hL : LaidF w) (hn : b.length = n) (hm : n ≤ 100000) (hr : RdB w.heap.size w A b) :
    Calls Tryz.prog 16 #[.agg #[.int .u8 (k.toNat : Int), .slice A n c]] w fun e w' => (∃ (A' : Option Addr) (c' : Nat), e = .returned (.tuple #[.slice A' (n + 9) c', .int .i64 0]) ∧ OwnB w.heap.size w' A' (n + 9) c' (sealL k b)) ∧ Below w.heap.size w w' := by
  obtain ⟨i0, hi0, hz0, hz1_, hz2⟩ := info_parts byt_info
  have HN := Lib.hid hn
  have g1 : (n : Int) ≤ 100000 := by omega
  have g2 : ¬ (100000 : Int) < (n : Int) := by omega
  have hB1 := b0 w (.cells #[.int .u8 (k.toNat : Int), .slice A n c] 60)
  have hP := blk_new w #[.int .u8 (k.toNat : Int), .slice A n c] 60
  have hR1 := hr.keep hB1 (Nat.le_refl _)
  have hk := k.toNat_lt
  have hl5 : #[Value.int .u8 229, .int .u8 (k.toNat : Int), .int .u8 ((n : Int) / 65536), .int .u8 ((n : Int) / 256 % 256), .int .u8 ((n : Int) % 256)].toList = bytV [229, k, UInt8.ofNat (n / 65536), UInt8.ofNat (n / 256 % 256), UInt8.ofNat (n % 256)] := by
    dsimp only [bytV, List.map]
    rw [of_small (x := n / 65536) (by omega), of_small (x := n / 256 % 256) (by omega), of_small (x := n % 256) (by omega)]
    rfl
  have hz1 : (w.alloc (.cells #[.int .u8 (k.toNat : Int), .slice A n c] 60)).heap.size = w.heap.size + 1 := by simp
  have hO2 := ownMade0 (w.alloc (.cells #[.int .u8 (k.toNat : Int), .slice A n c] 60)) (n + 9) (by omega)
  have hb2 := b0 (w.alloc (.cells #[.int .u8 (k.toNat : Int), .slice A n c] 60)) (.cells (madeCells #[.int .u8 0] (n + 9)) 5)
  rw [hz1] at hO2
  have hz2' : ((w.alloc (.cells #[.int .u8 (k.toNat : Int), .slice A n c] 60)).alloc (.cells (madeCells #[.int .u8 0] (n + 9)) 5)).heap.size = w.heap.size + 1 + 1 := by simp
  have hown := OwnB.lit ((w.alloc (.cells #[.int .u8 (k.toNat : Int), .slice A n c] 60)).alloc (.cells (madeCells #[.int .u8 0] (n + 9)) 5)) (base := w.heap.size + 1) _ _ hl5 (n := 5) rfl (by omega) (by unfold maxLen; omega)
  have hO3 := hO2.keep (b0 _ (.cells #[.int .u8 229, .int .u8 (k.toNat : Int), .int .u8 ((n : Int) / 65536), .int .u8 ((n : Int) / 256 % 256), .int .u8 ((n : Int) % 256)] 5))
  have hb3 := ba hb2 (.cells #[.int .u8 229, .int .u8 (k.toNat : Int), .int .u8 ((n : Int) / 65536), .int .u8 ((n : Int) / 256 % 256), .int .u8 ((n : Int) % 256)] 5)
  rw [hz2'] at hown
  rw [hz1] at hb3
  have hz3 : (((w.alloc (.cells #[.int .u8 (k.toNat : Int), .slice A n c] 60)).alloc (.cells (madeCells #[.int .u8 0] (n + 9)) 5)).alloc (.cells #[.int .u8 229, .int .u8 (k.toNat : Int), .int .u8 ((n : Int) / 65536), .int .u8 ((n : Int) / 256 % 256), .int .u8 ((n : Int) % 256)] 5)).heap.size = w.heap.size + 1 + 1 + 1 := by simp
  have HBY : Hid ([229, k, UInt8.ofNat (n / 65536), UInt8.ofNat (n / 256 % 256), UInt8.ofNat (n % 256)] ++ b = bodyL k b) := by show _ = _; unfold bodyL; rw [HN.out]
  have mk := fun W => run_make0 W (n + 9) (5 + (n : Int) + 4) (by omega) (by omega)
  clear hl5 hO2 hb2 hn
  go_enter Tryz.func16, Tryz.ntmps16
  go_wp2_with first
    | (at_builtin; refine wpList_apB (base := w.heap.size + 1) (n := 0) (m := 5) (l := []) (l2 := [229, k, UInt8.ofNat (n / 65536), UInt8.ofNat (n / 256 % 256), UInt8.ofNat (n % 256)]) (by rfl) _ _ (by rfl) Tryz.underlying33 Tryz.underlying33 hi0 hz0 hz1_ hz2 (by rfl) (by rfl) hO3 hown.rd rfl 5 (by omega) (by omega) (by omega) ?_; intro A5 c5 w5 hO5 hb5 hg5; rw [List.nil_append] at hO5; have hb35 := hb3.trans hb5; have hP5 : Blk w5 w.heap.size #[.int .u8 (k.toNat : Int), .slice A n c] 60 := (hb35.block w.heap.size (by omega)).trans hP; have p1 : w5.cell? ⟨w.heap.size, 1, none⟩ = some (.slice A n c) := hP5.cell 1; have hR5 := hR1.keep hb35 (by omega); have z5 := hb35.size)
    | (at_builtin; refine wpList_apB (base := w.heap.size + 1) (n := 5) (m := n) (l := [229, k, UInt8.ofNat (n / 65536), UInt8.ofNat (n / 256 % 256), UInt8.ofNat (n % 256)]) (l2 := b) (by rfl) _ _ (by rfl) Tryz.underlying33 Tryz.underlying33 hi0 hz0 hz1_ hz2 (by rfl) (by rfl) hO5 hR5 HN.out (n + 5) (by omega) (by omega) (by omega) ?_; intro A6 c6 w6 hO6 hb6 hg6)
  rw [HBY.out] at hO6
  have hb36 := hb35.trans hb6
  have hB6 : Below w.heap.size w w6 := hB1.trans (hb36.mono (by omega))
  clear hown hO3 hg5 hg6 hO5 hb5 hb6 HBY hb3 mk
  refine (sum_any A6 (n + 5) c6 (bodyL k b) w6 (hL.keep hB6) hO6.len hO6.rd (by omega)).mono ?_
  rintro e w7 ⟨rfl, rfl⟩
  have hcs := crcL_lt (bodyL k b)
  generalize hcc : crcL (bodyL k b) = cs at hcs ⊢
  have HCC := Lib.hid hcc
  clear hcc
  have hcs' : (cs : Int) < 4294967296 := by omega
  have hl4 : #[Value.int .u8 ((cs : Int) / 16777216), .int .u8 ((cs : Int) / 65536 % 256), .int .u8 ((cs : Int) / 256 % 256), .int .u8 ((cs : Int) % 256)].toList = bytV (fourB cs) := by
    dsimp only [fourB, bytV, List.map]
    rw [of_small (x := cs / 16777216) (by omega), of_small (x := cs / 65536 % 256) (by omega), of_small (x := cs / 256 % 256) (by omega), of_small (x := cs % 256) (by omega)]
    rfl
  have hown4 := OwnB.lit w6 (base := w6.heap.size) _ _ hl4 (n := 4) rfl (Nat.le_refl _) (by unfold maxLen; omega)
  have hO7 := (hO6.less (b2 := w.heap.size) (by omega)).keep (b0 w6 (.cells #[.int .u8 ((cs : Int) / 16777216), .int .u8 ((cs : Int) / 65536 % 256), .int .u8 ((cs : Int) / 256 % 256), .int .u8 ((cs : Int) % 256)] 5))
  have hz6 := hB6.size
  have hB7 := hB6.alloc hz6 (.cells #[.int .u8 ((cs : Int) / 16777216), .int .u8 ((cs : Int) / 65536 % 256), .int .u8 ((cs : Int) / 256 % 256), .int .u8 ((cs : Int) % 256)] 5)
  clear hl4 hO6
  go_wp2_with (at_builtin; refine wpList_apB (base := w.heap.size) (n := n + 5) (m := 4) (l := bodyL k b) (l2 := fourB cs) (by rfl) _ _ (by rfl) Tryz.underlying33 Tryz.underlying33 hi0 hz0 hz1_ hz2 (by rfl) (by rfl) hO7 hown4.rd rfl (n + 9) (by omega) (by omega) (by simp; omega) ?_; intro A8 c8 w8 hO8 hb8 hg8)
  go_ret2
  refine ⟨⟨A8, c8, rfl, ?_⟩, hB7.trans hb8⟩
  unfold sealL
  rw [HCC.out]
  exact hO8
set_option maxRecDepth 100000 in
set_option maxHeartbeats 2000000 in
theorem full_any (k : UInt8) (A : Option Addr) (n c : Nat) (w : World) (hL : LaidF w) (hm : 100000 < n) (hm2 : n ≤ 200000) :
    Calls Tryz.prog 16 #[.agg #[.int .u8 (k.toNat : Int), .slice A n c]] w fun e w' => e = .returned (.tuple #[.slice none 0 0, .int .i64 3]) ∧ Below w.heap.size w w' := by
  have g1 : (100000 : Int) < (n : Int) := by omega
  have hB1 := b0 w (.cells #[.int .u8 (k.toNat : Int), .slice A n c] 60)
  have HA := Lib.hid (fun W (h : Below w.heap.size w W) v m (hv : ErrF v m) => fanswer_any v m W (hL.keep h) hv)
  have HV : Hid (ErrF (.iface 93 (.agg #[.int .i64 (n : Nat), .int .i64 3])) 3) := .inr (.inr ⟨_, rfl⟩)
  go_enter Tryz.func16, Tryz.ntmps16
  go_wp2_with fail
  refine (HA.out _ hB1 _ 3 HV.out).mono ?_
  rintro e w4 ⟨rfl, hb4⟩
  have hB4 := bt hB1 hb4
  go_wp2_with fail
  go_ret2
  exact ⟨rfl, hB4⟩
end Go.Proofs.YtfpfalgbkbmkeaaGreatDoor

namespace Go.Proofs.YtfpfalgbkbmkeaaGreatDoor
open Go.RowKit

/-- A letter's bytes. -/
def encB (x : Lt) : List UInt8 := sealL (UInt8.ofNat x.k.toNat) (insB x)
def EnR (w : World) (x : Lt) (v : Value) (w' : World) : Prop := ∃ (A : Option Addr) (n c : Nat), v = .tuple #[.slice A n c, .int .i64 0] ∧ OwnB w.heap.size w' A n c (encB x) ∧ Below w.heap.size w w'
theorem enters_fSeal : ∀ args w, (callFunc 16 args).run Tryz.prog w = .ok (.enter 16 args) w := enters_of Tryz.func16 (by kernel_rfl) rfl
theorem enters_ltGood : ∀ args w, (callFunc 12 args).run Tryz.prog w = .ok (.enter 12 args) w := enters_of Tryz.func12 (by kernel_rfl) rfl
theorem enters_Encode : ∀ args w, (callFunc 9 args).run Tryz.prog w = .ok (.enter 9 args) w := enters_of Tryz.func9 (by kernel_rfl) rfl

theorem good_kind {x : Lt} (h : goodLt x = true) : 1 ≤ x.k ∧ x.k ≤ 4 := by
  unfold goodLt at h
  simp only [Bool.and_eq_true] at h
  have := kind_4 h.1.1.1.1
  omega
set_option maxRecDepth 100000 in
set_option maxHeartbeats 4000000 in
theorem encode_bad {B : Nat} (x : Lt) (h : Hn) (w : World) (hr : LtR B w x h) (hrB : B ≤ w.heap.size) (hf : LtF x) (hg : goodLt x = false) : Calls Tryz.prog 9 #[.agg (ltI x h)] w fun e w' => e = .returned (.tuple #[.slice none 0 0, .int .i64 2]) ∧ Below w.heap.size w w' := by
  go_enter Tryz.func9, Tryz.ntmps9
  go_upto_region 1 with fail
  have hX := blk_new w (ltI x h) 30
  have hB := b0 w (.cells (ltI x h) 30)
  have hR := hr.keep hB hrB
  generalize w.alloc (.cells (ltI x h) 30) = W at hX hB hR ⊢
  generalize hb : w.heap.size = b at hX hB ⊢
  have HX := Lib.hid hX
  have HR := Lib.hid hR
  have HF := Lib.hid hf
  have HBB := Lib.hid (Nat.le_trans hrB (Nat.le_of_eq hb))
  clear hX hR hr hf
  refine wp_region_lit ?_
  refine fl_start ?_
  generalize ha : Act.mk _ _ = a0
  have hn : a0.tmps.size = 16 := by rw [← ha]; kernel_rfl
  have h1 : (fr a0 []).eval (.tmp 1) = .pointer (some ⟨b, 0, none⟩) := by rw [← ha]; kernel_rfl
  refine fl_know hn rfl h1 ?_
  clear h1
  repeat first | refine g_mv hn ?_ | refine g_as hn ?_ | refine g_fdL hn ?_ | refine g_ldL hn HX.out ?_ | refine g_ldA hn HX.out ?_ | refine g_fd hn ?_ | refine g_ld hn ?_ | refine g_nc hn ?_ | refine g_nt hn ?_ | refine g_an hn ?_ | refine g_or hn ?_ | refine g_ln hn ?_ | refine g_ex hn ?_ | refine g_neq2 hn ?_ | refine g_neq hn ?_ | refine g_eql2 hn ?_ | refine g_eql hn ?_ | refine g_leq2 hn ?_ | refine g_leq hn ?_ | refine g_lss2 hn ?_ | refine g_lss hn ?_ | refine g_gtr2 hn ?_ | refine g_gtr hn ?_ | refine g_geq2 hn ?_ | refine g_geq hn ?_ | refine g_b0 hn ?_ | refine g_bn hn ?_ | refine g_bc hn ?_ | refine g_cv hn ?_ | refine g_ac hn ?_ | refine g_mc hn ?_
  refine g_c1w enters_ltGood hn (ltGood_any x h _ HR.out (Nat.le_trans HBB.out (Nat.le_of_lt HX.out.lt)) HF.out) ?_
  intro w2 hb2
  rw [hg]
  repeat first | refine g_mv hn ?_ | refine g_as hn ?_ | refine g_fdL hn ?_ | refine g_ldL hn HX.out ?_ | refine g_ldA hn HX.out ?_ | refine g_fd hn ?_ | refine g_ld hn ?_ | refine g_nc hn ?_ | refine g_nt hn ?_ | refine g_an hn ?_ | refine g_or hn ?_ | refine g_ln hn ?_ | refine g_ex hn ?_ | refine g_neq2 hn ?_ | refine g_neq hn ?_ | refine g_eql2 hn ?_ | refine g_eql hn ?_ | refine g_leq2 hn ?_ | refine g_leq hn ?_ | refine g_lss2 hn ?_ | refine g_lss hn ?_ | refine g_gtr2 hn ?_ | refine g_gtr hn ?_ | refine g_geq2 hn ?_ | refine g_geq hn ?_ | refine g_b0 hn ?_ | refine g_bn hn ?_ | refine g_bc hn ?_ | refine g_cv hn ?_ | refine g_ac hn ?_ | refine g_mc hn ?_
  refine fl_end ?_
  clear hn
  subst ha
  dsimp only [fr, cnd, Act.put, cond_true]
  simp only [List.setIfInBounds_toArray, List.set_cons_zero, List.set_cons_succ, Bool.not_false]
  go_wp2_with fail
  go_ret2
  exact ⟨rfl, by rw [hb]; exact bnx hB HX.out hb2⟩
set_option maxRecDepth 100000 in
set_option maxHeartbeats 4000000 in
theorem encode_good {B : Nat} (x : Lt) (h : Hn) (w : World) (hr : LtR B w x h) (hrB : B ≤ w.heap.size) (hf : LtF x) (hg : goodLt x = true) (hs : LtS x) (hL : LaidF w) : Calls Tryz.prog 9 #[.agg (ltI x h)] w fun e w' => ∃ v, e = .returned v ∧ EnR w x v w' := by
  have HG := Lib.hid hg
  have HI := Lib.hid hs
  have hk := good_kind hg
  obtain ⟨k, hk0, hk1, hk2⟩ : ∃ k : Nat, x.k = (k : Int) ∧ 1 ≤ k ∧ k ≤ 4 := ⟨x.k.toNat, by omega, by omega, by omega⟩
  have HK : Hid (((UInt8.ofNat k).toNat : Int) = (k : Int) ∧ encB x = sealL (UInt8.ofNat k) (insB x)) := by
    refine ⟨of_small (by omega), ?_⟩
    unfold encB
    rw [hk0]
    rfl
  clear hg hs
  go_enter Tryz.func9, Tryz.ntmps9
  go_upto_region 1 with fail
  have hX := blk_new w (ltI x h) 30
  have hB := b0 w (.cells (ltI x h) 30)
  have hR := hr.keep hB hrB
  have hF := hL.keep hB
  generalize w.alloc (.cells (ltI x h) 30) = W at hX hB hR hF ⊢
  generalize hb : w.heap.size = b at hX hB ⊢
  have HX := Lib.hid hX
  have HR := Lib.hid hR
  have HF := Lib.hid hf
  have HL := Lib.hid hF
  have HBB := Lib.hid (Nat.le_trans hrB (Nat.le_of_eq hb))
  clear hX hR hr hf hF hL
  refine wp_region_lit ?_
  refine fl_start ?_
  generalize ha : Act.mk _ _ = a0
  have hn : a0.tmps.size = 16 := by rw [← ha]; kernel_rfl
  have h1 : (fr a0 []).eval (.tmp 1) = .pointer (some ⟨b, 0, none⟩) := by rw [← ha]; kernel_rfl
  refine fl_know hn rfl h1 ?_
  clear h1
  repeat first | refine g_mv hn ?_ | refine g_as hn ?_ | refine g_fdL hn ?_ | refine g_ldL hn HX.out ?_ | refine g_ldA hn HX.out ?_ | refine g_fd hn ?_ | refine g_ld hn ?_ | refine g_nc hn ?_ | refine g_nt hn ?_ | refine g_an hn ?_ | refine g_or hn ?_ | refine g_ln hn ?_ | refine g_ex hn ?_ | refine g_neq2 hn ?_ | refine g_neq hn ?_ | refine g_eql2 hn ?_ | refine g_eql hn ?_ | refine g_leq2 hn ?_ | refine g_leq hn ?_ | refine g_lss2 hn ?_ | refine g_lss hn ?_ | refine g_gtr2 hn ?_ | refine g_gtr hn ?_ | refine g_geq2 hn ?_ | refine g_geq hn ?_ | refine g_b0 hn ?_ | refine g_bn hn ?_ | refine g_bc hn ?_ | refine g_cv hn ?_ | refine g_ac hn ?_ | refine g_mc hn ?_
  refine g_c1w enters_ltGood hn (ltGood_any x h _ HR.out (Nat.le_trans HBB.out (Nat.le_of_lt HX.out.lt)) HF.out) ?_
  intro w2 hb2
  rw [HG.out]
  repeat first | refine g_mv hn ?_ | refine g_as hn ?_ | refine g_fdL hn ?_ | refine g_ldL hn HX.out ?_ | refine g_ldA hn HX.out ?_ | refine g_fd hn ?_ | refine g_ld hn ?_ | refine g_nc hn ?_ | refine g_nt hn ?_ | refine g_an hn ?_ | refine g_or hn ?_ | refine g_ln hn ?_ | refine g_ex hn ?_ | refine g_neq2 hn ?_ | refine g_neq hn ?_ | refine g_eql2 hn ?_ | refine g_eql hn ?_ | refine g_leq2 hn ?_ | refine g_leq hn ?_ | refine g_lss2 hn ?_ | refine g_lss hn ?_ | refine g_gtr2 hn ?_ | refine g_gtr hn ?_ | refine g_geq2 hn ?_ | refine g_geq hn ?_ | refine g_b0 hn ?_ | refine g_bn hn ?_ | refine g_bc hn ?_ | refine g_cv hn ?_ | refine g_ac hn ?_ | refine g_mc hn ?_
  refine fl_end ?_
  clear hn
  subst ha
  dsimp only [fr, cnd, Act.put, cond_true]
  simp only [List.setIfInBounds_toArray, List.set_cons_zero, List.set_cons_succ, Bool.not_true]
  replace hB := bnx hB HX.out hb2
  replace HR := Lib.hid (HR.out.keep hb2 (Nat.le_trans HBB.out (Nat.le_of_lt HX.out.lt)))
  replace HL := Lib.hid (HL.out.keep hb2)
  replace HX := Lib.hid (HX.out.keep hb2)
  clear hb2
  have cf : ∀ W, (Blk W b (ltI x h) 30 ∧ LtR B W x h ∧ Below b w W ∧ LaidF W) → (Instr.fieldAt 30 (.pointer (some ⟨b, 0, none⟩)) 0).run Tryz.prog W = .ok (.pointer (some ⟨b, 0, none⟩)) W := fun W _ => lc_a0 W b
  have cl : ∀ W, (Blk W b (ltI x h) 30 ∧ LtR B W x h ∧ Below b w W ∧ LaidF W) → (Instr.loadAt 3 (.pointer (some ⟨b, 0, none⟩))).run Tryz.prog W = .ok (.int .i64 x.k) W := fun W hs => lc_l0 hs.1
  have ca : ∀ W, (Blk W b (ltI x h) 30 ∧ LtR B W x h ∧ Below b w W ∧ LaidF W) → (Instr.loadAt 30 (.pointer (some ⟨b, 0, none⟩))).run Tryz.prog W = .ok (.agg (ltI x h)) W := fun W hs => lc_all hs.1
  have cc : ∀ W, (Blk W b (ltI x h) 30 ∧ LtR B W x h ∧ Below b w W ∧ LaidF W) → (convert 3 5 (.int .i64 x.k)).run Tryz.prog W = .ok (.int .u8 (k : Int)) W := fun W _ => by
    rw [hk0]
    have hw : IntKind.u8.wrap (k : Int) = (k : Int) := by unfold IntKind.wrap; simp [IntKind.bits, IntKind.signed]; omega
    go_simp
  go_upto_region 3 with fail
  refine fh_start (S := (fun W => Blk W b (ltI x h) 30 ∧ LtR B W x h ∧ Below b w W ∧ LaidF W)) (by kernel_rfl) (⟨HX.out, HR.out.keep ((Below.refl B _).drew) (Nat.le_refl _), hB.drew, HL.out⟩) (fun hS => ?_)
  generalize ha : Act.mk _ _ = a0
  have hn : a0.tmps.size = 16 := by rw [← ha]; kernel_rfl
  have h1 : (fr a0 []).eval (.tmp 1) = .pointer (some ⟨b, 0, none⟩) := by rw [← ha]; kernel_rfl
  refine fh_know hn rfl h1 ?_
  clear h1
  first | refine h_mv 0 hn hS ?_ | refine h_as 0 hn hS ?_ | refine h_fd 0 hn hS ?_ | refine h_ld 0 hn hS ?_ | refine h_nc 0 hn hS ?_ | refine h_cv 0 hn hS ?_ | refine h_ex 0 hn hS ?_ | refine h_nt 0 hn hS ?_ | refine h_ix 0 hn hS ?_ | refine h_lk 0 hn hS ?_
  first | refine h_mv 1 hn hS ?_ | refine h_as 1 hn hS ?_ | refine h_fd 1 hn hS ?_ | refine h_ld 1 hn hS ?_ | refine h_nc 1 hn hS ?_ | refine h_cv 1 hn hS ?_ | refine h_ex 1 hn hS ?_ | refine h_nt 1 hn hS ?_ | refine h_ix 1 hn hS ?_ | refine h_lk 1 hn hS ?_
  first | refine h_mv 2 hn hS ?_ | refine h_as 2 hn hS ?_ | refine h_fd 2 hn hS ?_ | refine h_ld 2 hn hS ?_ | refine h_nc 2 hn hS ?_ | refine h_cv 2 hn hS ?_ | refine h_ex 2 hn hS ?_ | refine h_nt 2 hn hS ?_ | refine h_ix 2 hn hS ?_ | refine h_lk 2 hn hS ?_
  first | refine h_mv 3 hn hS ?_ | refine h_as 3 hn hS ?_ | refine h_fd 3 hn hS ?_ | refine h_ld 3 hn hS ?_ | refine h_nc 3 hn hS ?_ | refine h_cv 3 hn hS ?_ | refine h_ex 3 hn hS ?_ | refine h_nt 3 hn hS ?_ | refine h_ix 3 hn hS ?_ | refine h_lk 3 hn hS ?_
  refine h_c1 4 enters_inside hn (inside_any x h _ hS.2.1 (Nat.le_trans HBB.out (Nat.le_of_lt hS.1.lt)) HF.out HG.out HI.out) ?_
  rintro v w3 ⟨A3, n3, c3, rfl, hl3, hr3, hc3, hb3⟩
  replace hS := (show (fun W => Blk W b (ltI x h) 30 ∧ LtR B W x h ∧ Below b w W ∧ LaidF W) w3 from ⟨hS.1.keep hb3, hS.2.1.keep hb3 (Nat.le_trans HBB.out (Nat.le_of_lt hS.1.lt)), bnx hS.2.2.1 hS.1 hb3, hS.2.2.2.keep hb3⟩)
  refine ⟨hS, ?_⟩
  have cb : ∀ W, (Blk W b (ltI x h) 30 ∧ LtR B W x h ∧ Below b w W ∧ LaidF W) → (Instr.build 60 #[(0, .int .u8 (k : Int)), (1, .slice A3 n3 c3)]).run Tryz.prog W = .ok (.agg #[.int .u8 (k : Int), .slice A3 n3 c3]) W := fun W _ => by kernel_rfl
  refine h_bd 5 hn hS ?_ (qs := #[(0, .int .u8 (k : Int)), (1, .slice A3 n3 c3)]) (hp := fun hk _ => by simp only [List.map_toArray, List.map_cons, List.map_nil, lk_at hk (i := 9) rfl (fun _ => rfl) rfl, lk_at hk (i := 11) rfl (fun _ => rfl) rfl])
  have hc4 : Calls Tryz.prog 16 #[.agg #[.int .u8 (k : Int), .slice A3 n3 c3]] w3 fun e w' => ∃ v, e = .returned v ∧ ∃ (A4 : Option Addr) (c4 : Nat), v = .tuple #[.slice A4 (n3 + 9) c4, .int .i64 0] ∧ OwnB w3.heap.size w' A4 (n3 + 9) c4 (encB x) ∧ Below w3.heap.size w3 w' := by
    rw [HK.out.2, ← HK.out.1]
    refine (seal_any (UInt8.ofNat k) A3 n3 c3 (insB x) w3 hS.2.2.2 hl3 (by have := HI.out.ins; omega) hr3).mono ?_
    rintro e w4 ⟨⟨A4, c4, he, hO⟩, hb4⟩
    exact ⟨_, he, A4, c4, rfl, hO, hb4⟩
  refine h_c1 6 enters_fSeal hn hc4 ?_
  rintro v w4 ⟨A4, c4, rfl, hO4, hb4⟩
  have hlt := hS.1.lt
  replace hS := (show (fun W => Blk W b (ltI x h) 30 ∧ LtR B W x h ∧ Below b w W ∧ LaidF W) w4 from ⟨hS.1.keep hb4, hS.2.1.keep hb4 (Nat.le_trans HBB.out (Nat.le_of_lt hS.1.lt)), bnx hS.2.2.1 hS.1 hb4, hS.2.2.2.keep hb4⟩)
  refine ⟨hS, ?_⟩
  first | refine h_mv 7 hn hS ?_ | refine h_as 7 hn hS ?_ | refine h_fd 7 hn hS ?_ | refine h_ld 7 hn hS ?_ | refine h_nc 7 hn hS ?_ | refine h_cv 7 hn hS ?_ | refine h_ex 7 hn hS ?_ | refine h_nt 7 hn hS ?_ | refine h_ix 7 hn hS ?_ | refine h_lk 7 hn hS ?_
  first | refine h_mv 8 hn hS ?_ | refine h_as 8 hn hS ?_ | refine h_fd 8 hn hS ?_ | refine h_ld 8 hn hS ?_ | refine h_nc 8 hn hS ?_ | refine h_cv 8 hn hS ?_ | refine h_ex 8 hn hS ?_ | refine h_nt 8 hn hS ?_ | refine h_ix 8 hn hS ?_ | refine h_lk 8 hn hS ?_
  first | refine h_mv 9 hn hS ?_ | refine h_as 9 hn hS ?_ | refine h_fd 9 hn hS ?_ | refine h_ld 9 hn hS ?_ | refine h_nc 9 hn hS ?_ | refine h_cv 9 hn hS ?_ | refine h_ex 9 hn hS ?_ | refine h_nt 9 hn hS ?_ | refine h_ix 9 hn hS ?_ | refine h_lk 9 hn hS ?_
  first | refine h_mv 10 hn hS ?_ | refine h_as 10 hn hS ?_ | refine h_fd 10 hn hS ?_ | refine h_ld 10 hn hS ?_ | refine h_nc 10 hn hS ?_ | refine h_cv 10 hn hS ?_ | refine h_ex 10 hn hS ?_ | refine h_nt 10 hn hS ?_ | refine h_ix 10 hn hS ?_ | refine h_lk 10 hn hS ?_
  refine fh_end (by kernel_rfl) ?_
  clear hn cf cl ca cc cb
  subst ha
  dsimp only [fr, cnd, Act.put, cond_true]
  simp only [List.setIfInBounds_toArray, List.set_cons_zero, List.set_cons_succ]
  go_wp2_with fail
  go_ret2
  exact ⟨_, rfl, A4, n3 + 9, c4, rfl, hO4.less (by rw [hb]; exact Nat.le_of_lt hlt), by rw [hb]; exact hS.2.2.1⟩
end Go.Proofs.YtfpfalgbkbmkeaaGreatDoor

namespace Go.Proofs.YtfpfalgbkbmkeaaGreatDoor

/-- Four bytes as a number, the highest first. -/
def numF (b : List UInt8) (p : Nat) : Nat := 16777216 * (byteAt b p).toNat + 65536 * (byteAt b (p + 1)).toNat + 256 * (byteAt b (p + 2)).toNat + (byteAt b (p + 3)).toNat
theorem four_is {x : List UInt8} (h : x.length = 4) {c : Nat} (hc : c < 4294967296) : fourB c = x ↔ c = numF x 0 := by
  match x, h with
  | [a, b, d, e], _ =>
    have ha := a.toNat_lt
    have hb := b.toNat_lt
    have hd := d.toNat_lt
    have he := e.toNat_lt
    show fourB c = [a, b, d, e] ↔ c = 16777216 * a.toNat + 65536 * b.toNat + 256 * d.toNat + e.toNat
    unfold fourB
    constructor
    · intro h
      simp only [List.cons.injEq, and_true] at h
      obtain ⟨rfl, rfl, rfl, rfl⟩ := h
      rw [UInt8.toNat_ofNat', UInt8.toNat_ofNat', UInt8.toNat_ofNat', UInt8.toNat_ofNat']
      omega
    · intro h
      simp only [List.cons.injEq, and_true]
      refine ⟨UInt8.toNat_inj.1 ?_, UInt8.toNat_inj.1 ?_, UInt8.toNat_inj.1 ?_, UInt8.toNat_inj.1 ?_⟩
      all_goals
        rw [UInt8.toNat_ofNat']
        omega
theorem body_is {b : List UInt8} (h9 : 9 ≤ b.length) (h0 : byteAt b 0 = 229) (hl : lenF b + 9 ≤ b.length) : bodyL (byteAt b 1) ((b.drop 5).take (lenF b)) = b.take (lenF b + 5) := by
  match b, h9 with
  | x0 :: x1 :: x2 :: x3 :: x4 :: r, _ =>
    have hx0 : x0 = 229 := h0
    have h2 := x2.toNat_lt
    have h3 := x3.toNat_lt
    have h4 := x4.toNat_lt
    have hN : lenF (x0 :: x1 :: x2 :: x3 :: x4 :: r) = 65536 * x2.toNat + 256 * x3.toNat + x4.toNat := rfl
    rw [hN] at hl ⊢
    have hlen : (r.take (65536 * x2.toNat + 256 * x3.toNat + x4.toNat)).length = 65536 * x2.toNat + 256 * x3.toNat + x4.toNat := by
      rw [List.length_take]
      simp only [List.length_cons] at hl
      omega
    show bodyL x1 (r.take _) = x0 :: x1 :: x2 :: x3 :: x4 :: r.take _
    unfold bodyL
    rw [hlen, hx0]
    have e2 : UInt8.ofNat ((65536 * x2.toNat + 256 * x3.toNat + x4.toNat) / 65536) = x2 := UInt8.toNat_inj.1 (by rw [UInt8.toNat_ofNat']; omega)
    have e3 : UInt8.ofNat ((65536 * x2.toNat + 256 * x3.toNat + x4.toNat) / 256 % 256) = x3 := UInt8.toNat_inj.1 (by rw [UInt8.toNat_ofNat']; omega)
    have e4 : UInt8.ofNat ((65536 * x2.toNat + 256 * x3.toNat + x4.toNat) % 256) = x4 := UInt8.toNat_inj.1 (by rw [UInt8.toNat_ofNat']; omega)
    rw [e2, e3, e4]
    rfl
/-- What stands in bytes as long as a frame: the kind, the inside, what is wrong. -/
def unsF (y : List UInt8) : UInt8 × List UInt8 × Nat :=
  if crcL (y.take (y.length - 4)) = numF (y.drop (y.length - 4)) 0 then (byteAt y 1, (y.take (y.length - 4)).drop 5, 0) else (0, [], 4)
theorem numF_take {x : List UInt8} : numF (x.take 4) 0 = numF x 0 := by
  have g : ∀ i, i < 4 → byteAt (x.take 4) i = byteAt x i := fun i hi => by
    unfold byteAt
    rw [List.getD_eq_getElem?_getD, List.getD_eq_getElem?_getD, List.getElem?_take, if_pos hi]
  unfold numF
  rw [g 0 (by omega), g 1 (by omega), g 2 (by omega), g 3 (by omega)]
/-- .. is what is taken. -/
theorem uns_take {b : List UInt8} (h9 : 9 ≤ b.length) (h0 : byteAt b 0 = 229) (hm : lenF b ≤ 100000) (hl : lenF b + 9 ≤ b.length) : takeF b = ((unsF (b.take (lenF b + 9))).1, (unsF (b.take (lenF b + 9))).2.1, lenF b + 9, (unsF (b.take (lenF b + 9))).2.2) := by
  have hbody := body_is h9 h0 hl
  have hN : (b.take (lenF b + 9)).length = lenF b + 9 := by rw [List.length_take]; omega
  have h1 : byteAt (b.take (lenF b + 9)) 1 = byteAt b 1 := by
    unfold byteAt
    rw [List.getD_eq_getElem?_getD, List.getD_eq_getElem?_getD, List.getElem?_take, if_pos (by omega)]
  have h5 : (b.take (lenF b + 9)).take (lenF b + 5) = b.take (lenF b + 5) := by rw [List.take_take, Nat.min_eq_left (by omega)]
  have h4 : (b.take (lenF b + 9)).drop (lenF b + 5) = (b.drop (lenF b + 5)).take 4 := by rw [List.drop_take, show lenF b + 9 - (lenF b + 5) = 4 by omega]
  have hin : (b.take (lenF b + 5)).drop 5 = (b.drop 5).take (lenF b) := by rw [List.drop_take, Nat.add_sub_cancel]
  have hall : b.take (lenF b + 9) = b.take (lenF b + 5) ++ (b.drop (lenF b + 5)).take 4 := by
    rw [← h4, ← h5, List.take_append_drop]
  have hx4 : ((b.drop (lenF b + 5)).take 4).length = 4 := by rw [List.length_take, List.length_drop]; omega
  have hiff : sealL (byteAt b 1) ((b.drop 5).take (lenF b)) = b.take (lenF b + 9) ↔ crcL (b.take (lenF b + 5)) = numF (b.drop (lenF b + 5)) 0 := by
    unfold sealL
    rw [hbody, hall, List.append_cancel_left_eq, four_is hx4 (crcL_lt _), numF_take]
  unfold takeF unsF
  rw [if_neg (by rw [h0]; simp; omega), if_neg (by omega), hN, show lenF b + 9 - 4 = lenF b + 5 by omega, h5, h4, numF_take, h1, hin]
  by_cases h : crcL (b.take (lenF b + 5)) = numF (b.drop (lenF b + 5)) 0
  · rw [if_pos h, if_neg (fun k => k (hiff.2 h))]
  · rw [if_neg h, if_pos (fun k => h (hiff.1 k))]
end Go.Proofs.YtfpfalgbkbmkeaaGreatDoor

namespace Go.Proofs.YtfpfalgbkbmkeaaGreatDoor
open Go.RowKit

theorem or_u32 (x y : Int) (i : Nat) (hx₀ : 0 ≤ x) (hx : x % 2 ^ i = 0) (hx₁ : x < 2 ^ 32) (hy₀ : 0 ≤ y) (hy : y < 2 ^ i) (hy₁ : y < 2 ^ 32) : bits .or .u32 x y = x + y := bits_join .u32 32 (by decide) wraps_u32 i x y hx₀ hx hx₁ hy₀ hy hy₁
theorem wraps_i64 (n : Int) (h₀ : 0 ≤ n) (h₁ : n < 2 ^ 63) : IntKind.i64.wrap n = n := by rw [IntKind.wrap_i64]; omega
theorem or_i64 (x y : Int) (i : Nat) (hx₀ : 0 ≤ x) (hx : x % 2 ^ i = 0) (hx₁ : x < 2 ^ 63) (hy₀ : 0 ≤ y) (hy : y < 2 ^ i) (hy₁ : y < 2 ^ 63) : bits .or .i64 x y = x + y := bits_join .i64 63 (by decide) wraps_i64 i x y hx₀ hx hx₁ hy₀ hy hy₁

set_option maxRecDepth 100000 in
set_option maxHeartbeats 4000000 in
theorem sumAt_any {B : Nat} (A : Option Addr) (c : Nat) (b : List UInt8) (w : World) (hn : b.length = 4) (hr : RdB B w A b) :
    Calls Tryz.prog 97 #[.slice A 4 c] w fun e w' => e = .returned (.int .u32 (numF b 0 : Nat)) ∧ w' = w.drew := by
  have g : ∀ i, i < 4 → ∃ ad, A = some ad ∧ ad.block < B ∧ w.cell? (ad.add i) = some (.int .u8 ((byteAt b i).toNat : Int)) := fun i hi => hr i _ (byteAt_get (by omega))
  obtain ⟨ad, rfl, _, k0⟩ := g 0 (by omega)
  have g2 : ∀ i, i < 4 → w.cell? (ad.add i) = some (.int .u8 ((byteAt b i).toNat : Int)) := fun i hi => by
    obtain ⟨a2, e, _, c⟩ := g i hi
    injection e with e
    subst e
    exact c
  have c0 : w.cell? ad = some (.int .u8 ((byteAt b 0).toNat : Int)) := by simpa [Addr.add] using g2 0 (by omega)
  have c1 : w.cell? ⟨ad.block, ad.off + 1, none⟩ = some (.int .u8 ((byteAt b 1).toNat : Int)) := g2 1 (by omega)
  have c2 : w.cell? ⟨ad.block, ad.off + 2, none⟩ = some (.int .u8 ((byteAt b 2).toNat : Int)) := g2 2 (by omega)
  have c3 : w.cell? ⟨ad.block, ad.off + 3, none⟩ = some (.int .u8 ((byteAt b 3).toNat : Int)) := g2 3 (by omega)
  have R : Hid (numF b 0 = 16777216 * (byteAt b 0).toNat + 65536 * (byteAt b 1).toNat + 256 * (byteAt b 2).toNat + (byteAt b 3).toNat) := rfl
  have b0' := (byteAt b 0).toNat_lt
  have b1' := (byteAt b 1).toNat_lt
  have b2' := (byteAt b 2).toNat_lt
  have b3' := (byteAt b 3).toNat_lt
  generalize (byteAt b 0).toNat = x0 at *
  generalize (byteAt b 1).toNat = x1 at *
  generalize (byteAt b 2).toNat = x2 at *
  generalize (byteAt b 3).toNat = x3 at *
  have o1 := or_u32 ((x0 : Int) * 16777216) ((x1 : Int) * 65536) 24 (by omega) (by omega) (by omega) (by omega) (by omega) (by omega)
  have o2 := or_u32 ((x0 : Int) * 16777216 + (x1 : Int) * 65536) ((x2 : Int) * 256) 16 (by omega) (by omega) (by omega) (by omega) (by omega) (by omega)
  have o3 := or_u32 ((x0 : Int) * 16777216 + (x1 : Int) * 65536 + (x2 : Int) * 256) (x3 : Int) 8 (by omega) (by omega) (by omega) (by omega) (by omega) (by omega)
  clear g g2 k0 hn hr
  go_enter Tryz.func97, Tryz.ntmps97
  go_wp2_with fail
  go_region
  go_wp2_with fail
  go_ret
  refine ⟨?_, rfl⟩
  rw [R.out]
  go_num

/-- How long the frame is that b begins with; 0: there is none so long. -/
theorem size_none {b : List UInt8} (h : b.length < 9 ∨ byteAt b 0 ≠ 229 ∨ 100000 < lenF b ∨ b.length < lenF b + 9) : (takeF b).2.2.1 = 0 ∧ (takeF b).2.2.2 = 2 := by
  unfold takeF
  by_cases h1 : b.length < 9 ∨ byteAt b 0 ≠ 229
  · rw [if_pos h1]
    exact ⟨rfl, rfl⟩
  · rw [if_neg h1]
    have h2 : 100000 < lenF b ∨ b.length < lenF b + 9 := by
      rcases h with h | h | h | h
      · exact absurd (.inl h) h1
      · exact absurd (.inr h) h1
      · exact .inl h
      · exact .inr h
    rw [if_pos h2]
    exact ⟨rfl, rfl⟩
theorem size_some {b : List UInt8} (h1 : 9 ≤ b.length) (h2 : byteAt b 0 = 229) (h3 : lenF b ≤ 100000) (h4 : lenF b + 9 ≤ b.length) : (takeF b).2.2.1 = lenF b + 9 := by
  unfold takeF
  rw [if_neg (by rw [h2]; simp; omega), if_neg (by omega)]
  split <;> rfl
/-- What length answers. -/
def LenP (s code : Nat) (w : World) (e : Ending) (w' : World) : Prop :=
  (∃ v : Value, e = .returned (.tuple #[.int .i64 (s : Nat), v]) ∧ ((s ≠ 0 ∧ v = .nilIface) ∨ (s = 0 ∧ code = 2 ∧ (v = .iface 166 (.int .i64 2) ∨ ∃ l : Int, v = .iface 93 (.agg #[.int .i64 l, .int .i64 2]))))) ∧ Below w.heap.size w w'

set_option maxRecDepth 100000 in
set_option maxHeartbeats 4000000 in
theorem length_any {B : Nat} (A : Option Addr) (n c : Nat) (b : List UInt8) (w : World) (hn : b.length = n) (hr : RdB B w A b) (hm : n ≤ 1000000000) :
    Calls Tryz.prog 50 #[.slice A n c] w fun e w' => LenP (takeF b).2.2.1 (takeF b).2.2.2 w e w' := by
  have HN := Lib.hid hn
  have gm : (n : Int) ≤ 1000000000 := by omega
  by_cases h5 : n < 5
  · have g5 : (n : Int) < 5 := by omega
    have R := Lib.hid (size_none (b := b) (.inl (by omega)))
    clear hn
    go_enter Tryz.func50, Tryz.ntmps50
    go_wp2_with fail
    go_ret2
    rw [R.out.1, R.out.2]
    exact ⟨⟨_, rfl, .inr ⟨rfl, rfl, .inr ⟨_, rfl⟩⟩⟩, Below.refl _ _⟩
  · have g5 : ¬ (n : Int) < 5 := by omega
    have g0 : (0 : Int) < (n : Int) := by omega
    have g1 : (2 : Int) < (n : Int) := by omega
    have g2 : (3 : Int) < (n : Int) := by omega
    have g3 : (4 : Int) < (n : Int) := by omega
    obtain ⟨ad, rfl, _, c0, _, c2, c3, c4⟩ := five hr (by omega)
    by_cases h0 : byteAt b 0 = 229
    · have e0 : (((byteAt b 0).toNat : Int) != 229) = false := by rw [h0]; rfl
      have e0' : (((byteAt b 0).toNat : Int) == 229) = true := by rw [h0]; rfl
      have b2' := (byteAt b 2).toNat_lt
      have b3' := (byteAt b 3).toNat_lt
      have b4' := (byteAt b 4).toNat_lt
      have HL : Hid (lenF b = 65536 * (byteAt b 2).toNat + 256 * (byteAt b 3).toNat + (byteAt b 4).toNat) := rfl
      have H0 := Lib.hid h0
      have o1 := or_i64 (((byteAt b 2).toNat : Int) * 65536) (((byteAt b 3).toNat : Int) * 256) 16 (by omega) (by omega) (by omega) (by omega) (by omega) (by omega)
      have o2 := or_i64 (((byteAt b 2).toNat : Int) * 65536 + ((byteAt b 3).toNat : Int) * 256) ((byteAt b 4).toNat : Int) 8 (by omega) (by omega) (by omega) (by omega) (by omega) (by omega)
      rw [show (((byteAt b 2).toNat : Int) * 65536 + ((byteAt b 3).toNat : Int) * 256 + ((byteAt b 4).toNat : Int)) = (lenF b : Nat) by rw [HL.out]; omega] at o2
      generalize hLL : lenF b = N at o2
      have HLL := Lib.hid hLL
      clear HL hLL h0 hn hr
      by_cases hbig : 100000 < N
      · have k1 : (100000 : Int) < (N : Int) := by omega
        have R := Lib.hid (size_none (b := b) (.inr (.inr (.inl (by rw [HLL.out]; exact hbig)))))
        go_enter Tryz.func50, Tryz.ntmps50
        go_wp2_with fail
        go_region
        go_wp2_with fail
        go_ret2
        rw [R.out.1, R.out.2]
        exact ⟨⟨_, rfl, .inr ⟨rfl, rfl, .inr ⟨_, rfl⟩⟩⟩, (Below.refl _ _).drew⟩
      · have k1 : ¬ (100000 : Int) < (N : Int) := by omega
        by_cases hlong : n < N + 9
        · have k2 : (n : Int) < (N : Int) + 9 := by omega
          have R := Lib.hid (size_none (b := b) (.inr (.inr (.inr (by rw [HLL.out, HN.out]; exact hlong)))))
          go_enter Tryz.func50, Tryz.ntmps50
          go_wp2_with fail
          go_region
          go_wp2_with fail
          go_ret2
          rw [R.out.1, R.out.2]
          exact ⟨⟨_, rfl, .inr ⟨rfl, rfl, .inr ⟨_, rfl⟩⟩⟩, (Below.refl _ _).drew⟩
        · have k2 : ¬ (n : Int) < (N : Int) + 9 := by omega
          have R := Lib.hid (size_some (b := b) (by rw [HN.out]; omega) H0.out (by rw [HLL.out]; omega) (by rw [HLL.out, HN.out]; omega))
          go_enter Tryz.func50, Tryz.ntmps50
          go_wp2_with fail
          go_region
          go_wp2_with fail
          go_ret2
          rw [R.out, HLL.out]
          exact ⟨⟨_, by go_num, .inl ⟨by omega, rfl⟩⟩, (Below.refl _ _).drew⟩
    · have e0 : (((byteAt b 0).toNat : Int) != 229) = true := by
        rw [bne_iff_ne]
        intro e
        exact h0 (UInt8.toNat_inj.1 (by show _ = 229; omega))
      have e0' : (((byteAt b 0).toNat : Int) == 229) = false := by
        rw [beq_eq_false_iff_ne]
        intro e
        exact h0 (UInt8.toNat_inj.1 (by show _ = 229; omega))
      have R := Lib.hid (size_none (b := b) (.inr (.inl h0)))
      clear hn h0
      go_enter Tryz.func50, Tryz.ntmps50
      go_wp2_with fail
      go_ret2
      rw [R.out.1, R.out.2]
      exact ⟨⟨_, rfl, .inr ⟨rfl, rfl, .inl rfl⟩⟩, Below.refl _ _⟩
end Go.Proofs.YtfpfalgbkbmkeaaGreatDoor
