/-
  WHAT IS PROVED: errors.As of Go's own text, walked, of an error of package pack's type 'wrong' with a target of that type: true, and the target holds it. Conditions: those typed in the theorem. · errors.As of Go's own text, walked, of an error of package pack's type 'wrong' with a target of that type: true, and the target holds it. Conditions: those typed in the theorem. · package pack's reader: answer (an error as a number), End: what they answer, as the chapter says. Conditions: those typed in each theorem. · how many bytes cells and lines come to (own work: plain facts), and words on strings of bytes.
-/
import Derived.Test.YtpjleeeligahaaaGreatDoorGQ14
import Derived.Lib.ReflectliteSlice
import Derived.Test.YtpjleeeligahaaaGreatDoorGQ4
import Derived.Test.YtpjleeeligahaaaGreatDoorGQ10
import Derived.Test.YtpjleeeligahaaaGreatDoorGQ0
namespace Go.Proofs.YtpjleeeligahaaaGreatDoor
open Go.RowKit Go.Extern.Stop Go.Stop Go.Extern

theorem aValueOfP (t : Addr) (w : World) : (ReflectliteValue.unpack (.iface 133 (.pointer (some t)))).run Tryz.prog w
    = .ok (.agg #[.pointer (some ⟨3, 133, none⟩), .pointer (some ⟨w.heap.size, 0, none⟩), .int .u64 150]) (w.alloc (.cells #[.pointer (some t)] 133)) := by kernel_rfl
theorem aTypeP (a : Addr) (w : World) : (ReflectliteValue.methodAny (ReflectliteValue.valueError "reflectlite.Value.Type" 0) (fun t _ _ _ => ReflectliteType.toType t) #[.agg #[.pointer (some ⟨3, 133, none⟩), .pointer (some a), .int .u64 150]]).run Tryz.prog w
    = .ok (.iface 215 (.agg #[.pointer (some ⟨3, 133, none⟩)])) w := by kernel_rfl
theorem aMKind (h : Value) (w : World) : (Go.method 388 215 (.agg #[h]) "Kind").run Tryz.prog w = .ok (204, h) w := by kernel_rfl
theorem aMElem (h : Value) (w : World) : (Go.method 388 215 (.agg #[h]) "Elem").run Tryz.prog w = .ok (217, .agg #[h]) w := by kernel_rfl
theorem aMImplements (h : Value) (w : World) : (Go.method 388 215 (.agg #[h]) "Implements").run Tryz.prog w = .ok (218, .agg #[h]) w := by kernel_rfl
theorem aMAssignableTo (h : Value) (w : World) : (Go.method 388 215 (.agg #[h]) "AssignableTo").run Tryz.prog w = .ok (215, .agg #[h]) w := by kernel_rfl
/-- The model's entry of (*abi.Type).Kind, as it is found. -/
noncomputable def eKind : Array Value → Sem Value := (Go.Extern.find Tryz.f204).getD fun _ => pure .nilIface
theorem aKindP (w : World) : (eKind #[.pointer (some ⟨3, 133, none⟩)]).run Tryz.prog w = .ok (.int .u8 22) w := by kernel_rfl
theorem aKindW (w : World) : (eKind #[.pointer (some ⟨3, 96, none⟩)]).run Tryz.prog w = .ok (.int .u8 25) w := by kernel_rfl
theorem aElemP (w : World) : (ReflectliteType.method ReflectliteType.elem #[.agg #[.pointer (some ⟨3, 133, none⟩)]]).run Tryz.prog w = .ok (.iface 215 (.agg #[.pointer (some ⟨3, 96, none⟩)])) w := by kernel_rfl
theorem aImplementsW (w : World) : (ReflectliteType.relation "Implements" ReflectliteType.implements_ #[.agg #[.pointer (some ⟨3, 96, none⟩)], .iface 215 (.agg #[.pointer (some ⟨3, 82, none⟩)])]).run Tryz.prog w = .ok (.bool true) w := by kernel_rfl
theorem aTypeOfW (v : Value) (w : World) : (ReflectliteType.typeOf #[.iface 96 v]).run Tryz.prog w = .ok (.iface 215 (.agg #[.pointer (some ⟨3, 96, none⟩)])) w := by kernel_rfl
theorem aAssignableW (w : World) : (ReflectliteType.relation "AssignableTo" ReflectliteType.assignableTo #[.agg #[.pointer (some ⟨3, 96, none⟩)], .iface 215 (.agg #[.pointer (some ⟨3, 96, none⟩)])]).run Tryz.prog w = .ok (.bool true) w := by kernel_rfl
theorem aValueOfW (s : ByteArray) (n : Int) (w : World) : (ReflectliteValue.unpack (.iface 96 (.agg #[.string s, .int .i64 n]))).run Tryz.prog w
    = .ok (.agg #[.pointer (some ⟨3, 96, none⟩), .pointer (some ⟨w.heap.size, 0, none⟩), .int .u64 153]) (w.alloc (.cells #[.string s, .int .i64 n] 96)) := by kernel_rfl

theorem aPartsP (a : Addr) (w : World) : (ReflectliteValue.parts (.agg #[.pointer (some ⟨3, 133, none⟩), .pointer (some a), .int .u64 150])).run Tryz.prog w = .ok (some (133, a, 150)) w := by kernel_rfl
/-- (Value).IsNil of the target. -/
theorem aIsNilP (a p : Addr) (W : World) (ha : W.cell? a = some (.pointer (some p))) :
    (ReflectliteValue.method (ReflectliteValue.valueError "reflectlite.Value.IsNil" 0) ReflectliteValue.isNil #[.agg #[.pointer (some ⟨3, 133, none⟩), .pointer (some a), .int .u64 150]]).run Tryz.prog W = .ok (.bool false) W := by
  rw [Go.Lib.rl_method]
  simp only [Sem.run_bind, aPartsP, Result.andThen]
  simp [ReflectliteValue.isNil, loadVar, isAgg, underlying, Tryz.underlying133, ha, Result.andThen]
theorem aElemOfP (w : World) : (Rtype.elem? 133).run Tryz.prog w = .ok (some 96) w := by kernel_rfl
theorem aMkW (p : Addr) (w : World) : (ReflectliteValue.mk 96 p ReflectliteValue.flagAddr).run Tryz.prog w = .ok (.agg #[.pointer (some ⟨3, 96, none⟩), .pointer (some p), .int .u64 409]) w := by kernel_rfl
/-- (Value).Elem of the target: what it points to, addressable. -/
theorem aElemVP (a p : Addr) (W : World) (ha : W.cell? a = some (.pointer (some p))) :
    (ReflectliteValue.method (ReflectliteValue.valueError "reflectlite.Value.Elem" 0) ReflectliteValue.elem #[.agg #[.pointer (some ⟨3, 133, none⟩), .pointer (some a), .int .u64 150]]).run Tryz.prog W
      = .ok (.agg #[.pointer (some ⟨3, 96, none⟩), .pointer (some p), .int .u64 409]) W := by
  rw [Go.Lib.rl_method]
  simp only [Sem.run_bind, aPartsP, Result.andThen]
  simp [ReflectliteValue.elem, loadVar, isAgg, underlying, Tryz.underlying133, ha, Result.andThen, aElemOfP, aMkW]
theorem aPartsA (a : Addr) (w : World) : (ReflectliteValue.parts (.agg #[.pointer (some ⟨3, 96, none⟩), .pointer (some a), .int .u64 409])).run Tryz.prog w = .ok (some (96, a, 409)) w := by kernel_rfl
theorem aPartsW (a : Addr) (w : World) : (ReflectliteValue.parts (.agg #[.pointer (some ⟨3, 96, none⟩), .pointer (some a), .int .u64 153])).run Tryz.prog w = .ok (some (96, a, 153)) w := by kernel_rfl
theorem aDirectW (w : World) : (Rtype.directlyAssignable 96 96).run Tryz.prog w = .ok true w := by kernel_rfl
theorem aSizeW (w : World) : (sizeOf 96).run Tryz.prog w = .ok 2 w := by kernel_rfl
theorem aAggW (w : World) : (isAgg 96).run Tryz.prog w = .ok true w := by kernel_rfl
theorem aLoadW (b : Nat) (v0 v1 : Value) (W : World) (hb : Blk W b #[v0, v1] 96) : (loadVar 96 ⟨b, 0, none⟩).run Tryz.prog W = .ok (.agg #[v0, v1]) W := by
  have h0 := hb.cell 0
  have h1 := hb.cell 1
  simp [loadVar, loadCells, loadCellsFrom, Result.andThen, Addr.add, h0, h1]
/-- A store of both cells. -/
theorem aStoreW (b : Nat) (v0 v1 u0 u1 : Value) (W : World) (hb : Blk W b #[u0, u1] 96) (o0 : v0.oneCell' = true) (o1 : v1.oneCell' = true) :
    (storeVar 96 ⟨b, 0, none⟩ (.agg #[v0, v1])).run Tryz.prog W = .ok () ((W.setCell ⟨b, 0, none⟩ v0).setCell ⟨b, 1, none⟩ v1) := by
  have h0 := hb.cell 0
  have f0 := hb.free 0
  have h1 := (hb.set 0 v0).cell 1
  have f1 := (hb.set 0 v0).free 1
  simp [storeVar, Value.cells, storeCells, Addr.add, Result.andThen]
  rw [run_store Tryz.prog W ⟨b, 0, none⟩ _ _ o0]
  simp [h0, f0]
  rw [run_store Tryz.prog _ ⟨b, 1, none⟩ _ _ o1]
  simp [h1, f1]
/-- (Value).Set. -/
theorem aSetW (b c : Nat) (s : ByteArray) (n : Int) (u0 u1 : Value) (W : World) (hc : Blk W c #[.string s, .int .i64 n] 96) (hb : Blk W b #[u0, u1] 96) :
    (ReflectliteValue.set #[.agg #[.pointer (some ⟨3, 96, none⟩), .pointer (some ⟨b, 0, none⟩), .int .u64 409], .agg #[.pointer (some ⟨3, 96, none⟩), .pointer (some ⟨c, 0, none⟩), .int .u64 153]]).run Tryz.prog W
      = .ok (.tuple #[]) ((W.setCell ⟨b, 0, none⟩ (.string s)).setCell ⟨b, 1, none⟩ (.int .i64 n)) := by
  show Sem.run Tryz.prog (ReflectliteValue.parts (.agg #[.pointer (some ⟨3, 96, none⟩), .pointer (some ⟨b, 0, none⟩), .int .u64 409]) >>= fun _ => ReflectliteValue.parts (.agg #[.pointer (some ⟨3, 96, none⟩), .pointer (some ⟨c, 0, none⟩), .int .u64 153]) >>= _) W = _
  simp only [Sem.run_bind, aPartsA, aPartsW, Result.andThen]
  simp [ReflectliteValue.flagAddr, Result.andThen, aLoadW c _ _ W hc, aDirectW, aStoreW b (.string s) (.int .i64 n) u0 u1 W hb rfl rfl]
end Go.Proofs.YtpjleeeligahaaaGreatDoor

namespace Go.Proofs.YtpjleeeligahaaaGreatDoor
open Go.RowKit Go.Extern.Stop Go.Stop Go.Extern

set_option maxRecDepth 100000 in
set_option maxHeartbeats 4000000 in
theorem as_hit (b : Nat) (s : ByteArray) (n : Int) (u0 u1 : Value) (w : World) (hg : w.cell? ⟨1, 0, none⟩ = some (.iface 215 (.agg #[.pointer (some ⟨3, 82, none⟩)]))) (hb : Blk w b #[u0, u1] 96) :
    Calls Tryz.prog 81 #[.iface 96 (.agg #[.string s, .int .i64 n]), .iface 133 (.pointer (some ⟨b, 0, none⟩))] w fun ev w' => ev = .returned (.bool true) ∧ Blk w' b #[.string s, .int .i64 n] 96 ∧ Below b w w' := by
  have x1 := @run_callFunc_extern Tryz.prog 124 _ (fun args => ReflectliteValue.unpack (args.getD 0 (.tuple #[]))) Tryz.func124 (by kernel_rfl) (by kernel_rfl) (by kernel_rfl) (by kernel_rfl)
  have x2 := @run_callFunc_extern Tryz.prog 125 _ (ReflectliteValue.methodAny (ReflectliteValue.valueError "reflectlite.Value.Type" 0) (fun t _ _ _ => ReflectliteType.toType t)) Tryz.func125 (by kernel_rfl) (by kernel_rfl) (by kernel_rfl) (by kernel_rfl)
  have x3 := @run_callFunc_extern Tryz.prog 126 _ (ReflectliteValue.method (ReflectliteValue.valueError "reflectlite.Value.IsNil" 0) ReflectliteValue.isNil) Tryz.func126 (by kernel_rfl) (by kernel_rfl) (by kernel_rfl) (by kernel_rfl)
  have x4 := @run_callFunc_extern Tryz.prog 204 _ eKind Tryz.func204 (by kernel_rfl) (by kernel_rfl) (by kernel_rfl) (by kernel_rfl)
  have x5 := @run_callFunc_extern Tryz.prog 217 _ (ReflectliteType.method ReflectliteType.elem) Tryz.func217 (by kernel_rfl) (by kernel_rfl) (by kernel_rfl) (by kernel_rfl)
  have x6 := @run_callFunc_extern Tryz.prog 218 _ (ReflectliteType.relation "Implements" ReflectliteType.implements_) Tryz.func218 (by kernel_rfl) (by kernel_rfl) (by kernel_rfl) (by kernel_rfl)
  have x7 := @run_callFunc_extern Tryz.prog 122 _ ReflectliteType.typeOf Tryz.func122 (by kernel_rfl) (by kernel_rfl) (by kernel_rfl) (by kernel_rfl)
  have x8 := @run_callFunc_extern Tryz.prog 215 _ (ReflectliteType.relation "AssignableTo" ReflectliteType.assignableTo) Tryz.func215 (by kernel_rfl) (by kernel_rfl) (by kernel_rfl) (by kernel_rfl)
  have x9 := @run_callFunc_extern Tryz.prog 158 _ (ReflectliteValue.method (ReflectliteValue.valueError "reflectlite.Value.Elem" 0) ReflectliteValue.elem) Tryz.func158 (by kernel_rfl) (by kernel_rfl) (by kernel_rfl) (by kernel_rfl)
  have x10 := @run_callFunc_extern Tryz.prog 159 _ ReflectliteValue.set Tryz.func159 (by kernel_rfl) (by kernel_rfl) (by kernel_rfl) (by kernel_rfl)
  have v1 := aValueOfP
  have v2 := aTypeP
  have m1 := aMKind
  have m2 := aMElem
  have m3 := aMImplements
  have m4 := aMAssignableTo
  have k1 := aKindP
  have k2 := aKindW
  have e1 := aElemP
  have i1 := aImplementsW
  have t1 := aTypeOfW
  have a1 := aAssignableW
  have v3 := aValueOfW
  have hlg : 1 < w.heap.size := World.block_lt_of_cell? w _ hg
  have hlb := hb.lt
  let W1 := w.alloc (.cells #[.pointer (some ⟨b, 0, none⟩)] 133)
  let C : Array Value := #[.pointer (some ⟨3, 133, none⟩), .pointer (some ⟨w.heap.size, 0, none⟩), .int .u64 150]
  let W2 := W1.alloc (.cells C 181)
  let W3 := W2.alloc (.cells C 181)
  let W4 := W3.alloc (.cells #[.string s, .int .i64 n] 96)
  have c1 : W2.cell? ⟨w.heap.size, 0, none⟩ = some (.pointer (some ⟨b, 0, none⟩)) := ((blk_new w #[.pointer (some ⟨b, 0, none⟩)] 133).alloc _).cell 0
  have c2 : W3.cell? ⟨w.heap.size, 0, none⟩ = some (.pointer (some ⟨b, 0, none⟩)) := (((blk_new w #[.pointer (some ⟨b, 0, none⟩)] 133).alloc _).alloc _).cell 0
  have n8 := aIsNilP ⟨w.heap.size, 0, none⟩ ⟨b, 0, none⟩ W2 c1
  have hg2 : W2.cell? ⟨1, 0, none⟩ = some (.iface 215 (.agg #[.pointer (some ⟨3, 82, none⟩)])) := by
    have hB : Below w.heap.size w W2 := ((Below.refl _ w).alloc (Nat.le_refl _) _).alloc (by simp) _
    exact (hB.cell hlg).trans hg
  have el := aElemVP ⟨w.heap.size, 0, none⟩ ⟨b, 0, none⟩ W3 c2
  have hz3 : W3.heap.size = w.heap.size + 1 + 1 + 1 := by simp [W3, W2, W1]
  have st := aSetW b (w.heap.size + 1 + 1 + 1) s n u0 u1 W4 (blk_at (w := W3) hz3.symm _ _) ((((hb.alloc _).alloc _).alloc _).alloc _)
  have hfin : Blk ((W4.setCell ⟨b, 0, none⟩ (.string s)).setCell ⟨b, 1, none⟩ (.int .i64 n)) b #[.string s, .int .i64 n] 96 := by
    have h := (((((hb.alloc (.cells #[.pointer (some ⟨b, 0, none⟩)] 133)).alloc (.cells C 181)).alloc (.cells C 181)).alloc (.cells #[.string s, .int .i64 n] 96)).set 0 (.string s)).set 1 (.int .i64 n)
    exact h
  have hbel : Below b w ((W4.setCell ⟨b, 0, none⟩ (.string s)).setCell ⟨b, 1, none⟩ (.int .i64 n)) := by
    have h4 : Below w.heap.size w W4 := ba (ba (ba (b0 w _) _) _) _
    exact ((h4.mono (Nat.le_of_lt hlb)).setCell (p := ⟨b, 0, none⟩) (Nat.le_refl _) _).setCell (p := ⟨b, 1, none⟩) (Nat.le_refl _) _
  have HF := Lib.hid (And.intro hfin hbel)
  clear hfin hbel c1 c2 hz3
  simp only [W1, W2, W3, W4, C] at *
  go_enter Tryz.func81, Tryz.ntmps81
  go_wp2
  refine wp_loop_rounds 1 ?_
  rw [rounds_succ]
  go_wp2
  go_ret
  exact ⟨rfl, HF.out.1, HF.out.2⟩
end Go.Proofs.YtpjleeeligahaaaGreatDoor

namespace Go.Proofs.YtpjleeeligahaaaGreatDoor
open Go.RowKit

set_option maxRecDepth 100000 in
set_option maxHeartbeats 2000000 in
theorem answer_any (S : Addr) (e0 : Value) (w : World) (hL : LaidP S w) (he : ErrP S e0) :
    Calls Tryz.prog 38 #[e0] w fun e w' => e = .returned (.int .i64 2) ∧ Below w.heap.size w w' := by
  have hB := b0 w (.cells #[.string ⟨#[]⟩, .int .i64 0] 96)
  have hK := blk_new w #[.string ⟨#[]⟩, .int .i64 0] 96
  have hL0 := hL.keep hB
  have hS := hL0.2
  have hle := Nat.le_refl w.heap.size
  rcases he with rfl | ⟨s, rfl⟩
  · go_enter Tryz.func38, Tryz.ntmps38
    go_wp2_with fail
    generalize w.alloc (.cells #[.string ⟨#[]⟩, .int .i64 0] 96) = W at hB hK hL0 hS ⊢
    refine (is_same S W).mono ?_
    rintro e w1 ⟨rfl, rfl⟩
    go_wp2_with fail
    go_ret
    exact ⟨rfl, hB⟩
  · go_enter Tryz.func38, Tryz.ntmps38
    go_wp2_with fail
    generalize w.alloc (.cells #[.string ⟨#[]⟩, .int .i64 0] 96) = W at hB hK hL0 hS ⊢
    generalize hb : w.heap.size = b at hK ⊢
    refine (is_wrong _ S W).mono ?_
    rintro e w1 ⟨rfl, rfl⟩
    go_wp2_with fail
    refine (as_hit b s 2 _ _ w1 hL0.1 hK).mono ?_
    rintro e w2 ⟨rfl, hK2, hb2⟩
    have c1 := hK2.cell 1
    go_wp2_with fail
    go_ret
    exact ⟨rfl, hB.trans (by rw [hb]; exact hb2)⟩
set_option maxRecDepth 100000 in
theorem answer_nil (S : Addr) (w : World) (hL : LaidP S w) :
    Calls Tryz.prog 38 #[.nilIface] w fun e w' => e = .returned (.int .i64 0) ∧ Below w.heap.size w w' := by
  have hB := b0 w (.cells #[.string ⟨#[]⟩, .int .i64 0] 96)
  have hL0 := hL.keep hB
  have hS := hL0.2
  go_enter Tryz.func38, Tryz.ntmps38
  go_wp2_with fail
  generalize w.alloc (.cells #[.string ⟨#[]⟩, .int .i64 0] 96) = W at hB hL0 hS ⊢
  refine (is_nil S W).mono ?_
  rintro e w1 ⟨rfl, rfl⟩
  go_wp2_with fail
  refine (as_nil _ w1).mono ?_
  rintro e w2 ⟨rfl, rfl⟩
  go_wp2_with fail
  go_ret
  exact ⟨rfl, hB⟩

set_option maxRecDepth 100000 in
set_option maxHeartbeats 1000000 in
theorem rEnd_any (S : Addr) (g : Nat) (st : Rest) (w : World) (hL : LaidP S w) (hR : RdrP S w g st) :
    Calls Tryz.prog 14 #[.pointer (some ⟨g, 0, none⟩)] w fun e w' => e = .returned (.int .i64 (endOf st)) ∧ RdrP S w' g st ∧ w.grownBy w' (some g) := by
  have HR := Lib.hid hR
  cases st with
  | none =>
    obtain ⟨e1, he1, hb⟩ := hR
    obtain ⟨t1, v1, rfl⟩ := errP_nil he1
    have c0 := hb.cell 0
    have c1 := hb.cell 1
    go_enter Tryz.func14, Tryz.ntmps14
    go_wp2_with fail
    refine (answer_any S _ w hL he1).mono ?_
    rintro e w1 ⟨rfl, hb1⟩
    go_wp2_with fail
    go_ret
    exact ⟨rfl, HR.out.below hb1, grown_below hb1 _⟩
  | some b =>
    obtain ⟨hl, s, hs, hb⟩ := hR
    have c0 := hb.cell 0
    have c1 := hb.cell 1
    cases b with
    | nil =>
      have hE : s.toList.isEmpty = true := by rw [ByteArray.toList_eq, hs]; rfl
      go_enter Tryz.func14, Tryz.ntmps14
      go_wp2_with fail
      refine (answer_nil S w hL).mono ?_
      rintro e w1 ⟨rfl, hb1⟩
      go_wp2_with fail
      go_ret
      exact ⟨rfl, HR.out.below hb1, grown_below hb1 _⟩
    | cons c r =>
      have hE : s.toList.isEmpty = false := by rw [ByteArray.toList_eq, hs]; rfl
      go_enter Tryz.func14, Tryz.ntmps14
      go_wp2_with fail
      refine (answer_any S _ w hL (.inr ⟨_, rfl⟩)).mono ?_
      rintro e w1 ⟨rfl, hb1⟩
      go_wp2_with fail
      go_ret
      exact ⟨rfl, HR.out.below hb1, grown_below hb1 _⟩
end Go.Proofs.YtpjleeeligahaaaGreatDoor

namespace Go.Proofs.YtpjleeeligahaaaGreatDoor
open Go.RowKit

theorem text_most {s : ByteArray} (h : s.size ≤ 100) : (textB s.data.toList).length ≤ 109 := by
  have hl : s.data.toList.length = s.size := Array.length_toList
  have := numB_small (n := s.size) (by omega)
  unfold textB
  rw [List.length_append, hl]
  omega
theorem val_most {k n : Int} {s : ByteArray} (hk : k = 0 ∨ k = 1 ∨ k = 2) (h0 : -9223372036854775808 ≤ n) (h1 : n ≤ 9223372036854775807) (hs : s.size ≤ 100) : (valB k n s.data.toList).length ≤ 118 := by
  rcases hk with rfl | rfl | rfl
  · rw [valB_0]
    have := numB_small (n := 0) (by omega)
    omega
  · rw [valB_1, List.length_append]
    have := numB_small (n := 1) (by omega)
    have := numB_small (zig_lt h0 h1)
    omega
  · rw [valB_2, List.length_append]
    have := numB_small (n := 2) (by omega)
    have := text_most hs
    omega
theorem clB_most {c : Cl} (h : c.good = true) (hf : c.fits) : (clB c).length ≤ 300 := by
  obtain ⟨h1, h2, h3, h4, h5⟩ := cl_in h
  have a := text_most (s := c.ky) (by omega)
  have b := val_most (s := c.s) (goodB_in h5).1 hf.2.2.1 hf.2.2.2 (by omega)
  unfold clB
  rw [List.length_append]
  omega
theorem flat_most {α : Type} {E : α → List UInt8} {m : Nat} : ∀ (l : List α), (∀ x, x ∈ l → (E x).length ≤ m) → (l.flatMap E).length ≤ l.length * m
  | [], _ => by simp
  | x :: t, h => by
    have h1 := h x (List.mem_cons_self ..)
    have h2 := flat_most t fun y hy => h y (List.mem_cons_of_mem _ hy)
    rw [List.flatMap_cons, List.length_append, List.length_cons, Nat.succ_mul]
    omega
/-- A byte ahead of bytes, as strings. -/
theorem cat_one (b : UInt8) (m : List UInt8) (hm : m.length ≤ 90000) : ∃ sa sb : ByteArray, (⟨([b] ++ m).toArray⟩ : ByteArray) = sa ∧ (⟨m.toArray⟩ : ByteArray) = sb ∧ Op.stringOp .add ⟨#[b]⟩ sb = pure (.string ((⟨#[b]⟩ : ByteArray) ++ sb)) ∧ (sa.toList == ((⟨#[b]⟩ : ByteArray) ++ sb).toList) = true :=
  ⟨_, _, rfl, rfl, str_add' (by show (1 : Nat) ≤ _; omega) (by show m.toArray.size ≤ _; rw [List.size_toArray]; omega), by
    rw [ByteArray.toList_eq, ByteArray.toList_eq]
    simp⟩
theorem end_cases {bh : List UInt8} {m : Nat} (h : bh.length = m) : (endOf (some bh) = 0 ∧ m = 0) ∨ (endOf (some bh) = 2 ∧ m ≠ 0) := by
  subst h
  cases bh with
  | nil => exact .inl ⟨rfl, rfl⟩
  | cons => exact .inr ⟨rfl, by simp⟩
end Go.Proofs.YtpjleeeligahaaaGreatDoor
