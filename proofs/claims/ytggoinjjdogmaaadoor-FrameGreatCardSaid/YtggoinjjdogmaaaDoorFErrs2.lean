/-
  WHAT IS PROVED: errors.As of Go's own text, walked, with a target of package frame's type 'number', of an error of that type, and of one of its type 'wrongLength', which wraps such a one: true, and the target holds the number. Conditions: those typed in each theorem.
-/
import Derived.Test.YtggoinjjdogmaaaDoorFErrs
namespace Go.Proofs.YtggoinjjdogmaaaDoor
open Go.RowKit Go.Extern.Stop Go.Stop Go.Extern

set_option maxRecDepth 100000 in
set_option maxHeartbeats 4000000 in
theorem as_hit (b : Nat) (n : Int) (u : Value) (w : World) (hg : w.cell? ⟨1, 0, none⟩ = some (.iface 79 (.agg #[.pointer (some ⟨2, 56, none⟩)]))) (hb : Blk w b #[u] 62) :
    Calls Tryd.prog 24 #[.iface 62 (.int .i64 n), .iface 64 (.pointer (some ⟨b, 0, none⟩))] w fun ev w' => ev = .returned (.bool true) ∧ Blk w' b #[.int .i64 n] 62 ∧ Below b w w' := by
  have x1 := @run_callFunc_extern Tryd.prog 27 _ (fun args => ReflectliteValue.unpack (args.getD 0 (.tuple #[]))) Tryd.func27 (by kernel_rfl) (by kernel_rfl) (by kernel_rfl) (by kernel_rfl)
  have x2 := @run_callFunc_extern Tryd.prog 28 _ (ReflectliteValue.methodAny (ReflectliteValue.valueError "reflectlite.Value.Type" 0) (fun t _ _ _ => ReflectliteType.toType t)) Tryd.func28 (by kernel_rfl) (by kernel_rfl) (by kernel_rfl) (by kernel_rfl)
  have x3 := @run_callFunc_extern Tryd.prog 29 _ (ReflectliteValue.method (ReflectliteValue.valueError "reflectlite.Value.IsNil" 0) ReflectliteValue.isNil) Tryd.func29 (by kernel_rfl) (by kernel_rfl) (by kernel_rfl) (by kernel_rfl)
  have x4 := @run_callFunc_extern Tryd.prog 48 _ eKind Tryd.func48 (by kernel_rfl) (by kernel_rfl) (by kernel_rfl) (by kernel_rfl)
  have x5 := @run_callFunc_extern Tryd.prog 60 _ (ReflectliteType.method ReflectliteType.elem) Tryd.func60 (by kernel_rfl) (by kernel_rfl) (by kernel_rfl) (by kernel_rfl)
  have x6 := @run_callFunc_extern Tryd.prog 61 _ (ReflectliteType.relation "Implements" ReflectliteType.implements_) Tryd.func61 (by kernel_rfl) (by kernel_rfl) (by kernel_rfl) (by kernel_rfl)
  have x7 := @run_callFunc_extern Tryd.prog 31 _ ReflectliteType.typeOf Tryd.func31 (by kernel_rfl) (by kernel_rfl) (by kernel_rfl) (by kernel_rfl)
  have x8 := @run_callFunc_extern Tryd.prog 58 _ (ReflectliteType.relation "AssignableTo" ReflectliteType.assignableTo) Tryd.func58 (by kernel_rfl) (by kernel_rfl) (by kernel_rfl) (by kernel_rfl)
  have x9 := @run_callFunc_extern Tryd.prog 32 _ (ReflectliteValue.method (ReflectliteValue.valueError "reflectlite.Value.Elem" 0) ReflectliteValue.elem) Tryd.func32 (by kernel_rfl) (by kernel_rfl) (by kernel_rfl) (by kernel_rfl)
  have x10 := @run_callFunc_extern Tryd.prog 33 _ ReflectliteValue.set Tryd.func33 (by kernel_rfl) (by kernel_rfl) (by kernel_rfl) (by kernel_rfl)
  have v1 := aValueOfP
  have v2 := aTypeP
  have m1 := aMKind
  have m2 := aMElem
  have m3 := aMImplements
  have m4 := aMAssignableTo
  have k1 := aKindP
  have k2 := aKindW
  have e1 := aElemP
  have i1 := aImplementsW
  have t1 := aTypeOfW
  have a1 := aAssignableW
  have v3 := aValueOfW
  have hlg : 1 < w.heap.size := World.block_lt_of_cell? w _ hg
  have hlb := hb.lt
  let W1 := w.alloc (.cells #[.pointer (some ⟨b, 0, none⟩)] 64)
  let C : Array Value := #[.pointer (some ⟨2, 64, none⟩), .pointer (some ⟨w.heap.size, 0, none⟩), .int .u64 150]
  let W2 := W1.alloc (.cells C 69)
  let W3 := W2.alloc (.cells C 69)
  let W4 := W3.alloc (.cells #[.int .i64 n] 62)
  have c1 : W2.cell? ⟨w.heap.size, 0, none⟩ = some (.pointer (some ⟨b, 0, none⟩)) := ((blk_new w #[.pointer (some ⟨b, 0, none⟩)] 64).alloc _).cell 0
  have c2 : W3.cell? ⟨w.heap.size, 0, none⟩ = some (.pointer (some ⟨b, 0, none⟩)) := (((blk_new w #[.pointer (some ⟨b, 0, none⟩)] 64).alloc _).alloc _).cell 0
  have n8 := aIsNilP ⟨w.heap.size, 0, none⟩ ⟨b, 0, none⟩ W2 c1
  have hg2 : W2.cell? ⟨1, 0, none⟩ = some (.iface 79 (.agg #[.pointer (some ⟨2, 56, none⟩)])) := by
    have hB : Below w.heap.size w W2 := ((Below.refl _ w).alloc (Nat.le_refl _) _).alloc (by simp) _
    exact (hB.cell hlg).trans hg
  have el := aElemVP ⟨w.heap.size, 0, none⟩ ⟨b, 0, none⟩ W3 c2
  have hz3 : W3.heap.size = w.heap.size + 1 + 1 + 1 := by simp [W3, W2, W1]
  have st := aSetW b (w.heap.size + 1 + 1 + 1) n u W4 (blk_at (w := W3) hz3.symm _ _) ((((hb.alloc _).alloc _).alloc _).alloc _)
  have hfin : Blk (W4.setCell ⟨b, 0, none⟩ (.int .i64 n)) b #[.int .i64 n] 62 := ((((hb.alloc _).alloc _).alloc _).alloc _).set 0 (.int .i64 n)
  have hbel : Below b w (W4.setCell ⟨b, 0, none⟩ (.int .i64 n)) := by
    have h4 : Below w.heap.size w W4 := ba (ba (ba (b0 w _) _) _) _
    exact (h4.mono (Nat.le_of_lt hlb)).setCell (p := ⟨b, 0, none⟩) (Nat.le_refl _) _
  have HF := Lib.hid (And.intro hfin hbel)
  clear hfin hbel c1 c2 hz3
  simp only [W1, W2, W3, W4, C] at *
  go_enter Tryd.func24, Tryd.ntmps24
  go_wp2
  refine wp_loop_rounds 1 ?_
  rw [rounds_succ]
  go_wp2
  go_ret
  exact ⟨rfl, HF.out.1, HF.out.2⟩
set_option maxRecDepth 100000 in
set_option maxHeartbeats 4000000 in
theorem as_wrap (b : Nat) (l n : Int) (u : Value) (w : World) (hg : w.cell? ⟨1, 0, none⟩ = some (.iface 79 (.agg #[.pointer (some ⟨2, 56, none⟩)]))) (hb : Blk w b #[u] 62) :
    Calls Tryd.prog 24 #[.iface 54 (.agg #[.int .i64 l, .int .i64 n]), .iface 64 (.pointer (some ⟨b, 0, none⟩))] w fun ev w' => ev = .returned (.bool true) ∧ Blk w' b #[.int .i64 n] 62 ∧ Below b w w' := by
  have x1 := @run_callFunc_extern Tryd.prog 27 _ (fun args => ReflectliteValue.unpack (args.getD 0 (.tuple #[]))) Tryd.func27 (by kernel_rfl) (by kernel_rfl) (by kernel_rfl) (by kernel_rfl)
  have x2 := @run_callFunc_extern Tryd.prog 28 _ (ReflectliteValue.methodAny (ReflectliteValue.valueError "reflectlite.Value.Type" 0) (fun t _ _ _ => ReflectliteType.toType t)) Tryd.func28 (by kernel_rfl) (by kernel_rfl) (by kernel_rfl) (by kernel_rfl)
  have x3 := @run_callFunc_extern Tryd.prog 29 _ (ReflectliteValue.method (ReflectliteValue.valueError "reflectlite.Value.IsNil" 0) ReflectliteValue.isNil) Tryd.func29 (by kernel_rfl) (by kernel_rfl) (by kernel_rfl) (by kernel_rfl)
  have x4 := @run_callFunc_extern Tryd.prog 48 _ eKind Tryd.func48 (by kernel_rfl) (by kernel_rfl) (by kernel_rfl) (by kernel_rfl)
  have x5 := @run_callFunc_extern Tryd.prog 60 _ (ReflectliteType.method ReflectliteType.elem) Tryd.func60 (by kernel_rfl) (by kernel_rfl) (by kernel_rfl) (by kernel_rfl)
  have x6 := @run_callFunc_extern Tryd.prog 61 _ (ReflectliteType.relation "Implements" ReflectliteType.implements_) Tryd.func61 (by kernel_rfl) (by kernel_rfl) (by kernel_rfl) (by kernel_rfl)
  have x7 := @run_callFunc_extern Tryd.prog 31 _ ReflectliteType.typeOf Tryd.func31 (by kernel_rfl) (by kernel_rfl) (by kernel_rfl) (by kernel_rfl)
  have x8 := @run_callFunc_extern Tryd.prog 58 _ (ReflectliteType.relation "AssignableTo" ReflectliteType.assignableTo) Tryd.func58 (by kernel_rfl) (by kernel_rfl) (by kernel_rfl) (by kernel_rfl)
  have x9 := @run_callFunc_extern Tryd.prog 32 _ (ReflectliteValue.method (ReflectliteValue.valueError "reflectlite.Value.Elem" 0) ReflectliteValue.elem) Tryd.func32 (by kernel_rfl) (by kernel_rfl) (by kernel_rfl) (by kernel_rfl)
  have x10 := @run_callFunc_extern Tryd.prog 33 _ ReflectliteValue.set Tryd.func33 (by kernel_rfl) (by kernel_rfl) (by kernel_rfl) (by kernel_rfl)
  have v1 := aValueOfP
  have v2 := aTypeP
  have m1 := aMKind
  have m2 := aMElem
  have m3 := aMImplements
  have m4 := aMAssignableTo
  have k1 := aKindP
  have k2 := aKindW
  have e1 := aElemP
  have i1 := aImplementsW
  have t1 := aTypeOfW
  have a1 := aAssignableW
  have v3 := aValueOfW
  have t2 := aTypeOfL
  have a2 := aAssignableL
  have nA := aNoAs
  have uW := aUnwraps
  have mU := aMUnwrap
  have hlg : 1 < w.heap.size := World.block_lt_of_cell? w _ hg
  have hlb := hb.lt
  let W1 := w.alloc (.cells #[.pointer (some ⟨b, 0, none⟩)] 64)
  let C : Array Value := #[.pointer (some ⟨2, 64, none⟩), .pointer (some ⟨w.heap.size, 0, none⟩), .int .u64 150]
  let W2 := W1.alloc (.cells C 69)
  let W3 := W2.alloc (.cells C 69)
  let W4 := W3.alloc (.cells #[.int .i64 l, .int .i64 n] 54)
  let W5 := W4.alloc (.cells #[.int .i64 n] 62)
  have c1 : W2.cell? ⟨w.heap.size, 0, none⟩ = some (.pointer (some ⟨b, 0, none⟩)) := ((blk_new w #[.pointer (some ⟨b, 0, none⟩)] 64).alloc _).cell 0
  have c2 : W4.cell? ⟨w.heap.size, 0, none⟩ = some (.pointer (some ⟨b, 0, none⟩)) := ((((blk_new w #[.pointer (some ⟨b, 0, none⟩)] 64).alloc _).alloc _).alloc _).cell 0
  have n8 := aIsNilP ⟨w.heap.size, 0, none⟩ ⟨b, 0, none⟩ W2 c1
  have hg2 : W2.cell? ⟨1, 0, none⟩ = some (.iface 79 (.agg #[.pointer (some ⟨2, 56, none⟩)])) := by
    have hB : Below w.heap.size w W2 := ((Below.refl _ w).alloc (Nat.le_refl _) _).alloc (by simp) _
    exact (hB.cell hlg).trans hg
  have el := aElemVP ⟨w.heap.size, 0, none⟩ ⟨b, 0, none⟩ W4 c2
  have hz3 : W4.heap.size = w.heap.size + 1 + 1 + 1 + 1 := by simp [W4, W3, W2, W1]
  have st := aSetW b (w.heap.size + 1 + 1 + 1 + 1) n u W5 (blk_at (w := W4) hz3.symm _ _) (((((hb.alloc _).alloc _).alloc _).alloc _).alloc _)
  have hfin : Blk (W5.setCell ⟨b, 0, none⟩ (.int .i64 n)) b #[.int .i64 n] 62 := (((((hb.alloc _).alloc _).alloc _).alloc _).alloc _).set 0 (.int .i64 n)
  have hbel : Below b w (W5.setCell ⟨b, 0, none⟩ (.int .i64 n)) := by
    have h4 : Below w.heap.size w W5 := ba (ba (ba (ba (b0 w _) _) _) _) _
    exact (h4.mono (Nat.le_of_lt hlb)).setCell (p := ⟨b, 0, none⟩) (Nat.le_refl _) _
  have HF := Lib.hid (And.intro hfin hbel)
  clear hfin hbel c1 c2 hz3
  simp only [W1, W2, W3, W4, W5, C] at *
  go_enter Tryd.func24, Tryd.ntmps24
  go_wp2
  refine wp_loop_rounds 2 ?_
  rw [rounds_succ]
  go_wp2
  rw [rounds_succ]
  go_wp2
  go_ret
  exact ⟨rfl, HF.out.1, HF.out.2⟩

/-- An error of package frame, with its number; 0: none. -/
def ErrF (v : Value) (n : Nat) : Prop :=
  (v = .nilIface ∧ n = 0) ∨ v = .iface 62 (.int .i64 (n : Nat)) ∨ ∃ l : Int, v = .iface 54 (.agg #[.int .i64 l, .int .i64 (n : Nat)])
theorem answer_any (v : Value) (n : Nat) (w : World) (hL : LaidF w) (hv : ErrF v n) :
    Calls Tryd.prog 20 #[v] w fun e w' => e = .returned (.int .i64 (n : Nat)) ∧ Below w.heap.size w w' := by
  have hg := (hL.keep (b0 w (.cells #[.int .i64 0] 62))).2
  have hb := blk_new w #[.int .i64 0] 62
  have hB := b0 w (.cells #[.int .i64 0] 62)
  rcases hv with ⟨rfl, rfl⟩ | rfl | ⟨l, rfl⟩
  · go_enter Tryd.func20, Tryd.ntmps20
    go_wp2_with fail
    refine (as_nil _ _).mono ?_
    rintro e w1 ⟨rfl, rfl⟩
    go_wp2_with fail
    go_ret
    exact ⟨rfl, hB⟩
  · have hc := as_hit w.heap.size (n : Nat) (.int .i64 0) _ hg hb
    clear hg hb
    go_enter Tryd.func20, Tryd.ntmps20
    go_wp2_with fail
    refine hc.mono ?_
    rintro e w1 ⟨rfl, hb1, hB1⟩
    have c0 := hb1.cell 0
    have hB2 := hB.trans hB1
    clear hc
    go_wp2_with fail
    go_ret
    exact ⟨rfl, hB2⟩
  · have hc := as_wrap w.heap.size l (n : Nat) (.int .i64 0) _ hg hb
    clear hg hb
    go_enter Tryd.func20, Tryd.ntmps20
    go_wp2_with fail
    refine hc.mono ?_
    rintro e w1 ⟨rfl, hb1, hB1⟩
    have c0 := hb1.cell 0
    have hB2 := hB.trans hB1
    clear hc
    go_wp2_with fail
    go_ret
    exact ⟨rfl, hB2⟩
end Go.Proofs.YtggoinjjdogmaaaDoor
