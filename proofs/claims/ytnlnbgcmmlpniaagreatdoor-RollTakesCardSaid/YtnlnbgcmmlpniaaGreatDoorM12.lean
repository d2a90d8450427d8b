/-
  WHAT IS PROVED: errors.As of Go's own text, walked, of an error of package pack's type 'wrong' with a target of that type: true, and the target holds it. Conditions: those typed in the theorem. · package pack's reader: answer (an error as a number), End: what they answer, as the chapter says. Conditions: those typed in each theorem.
-/
import Derived.Test.YtnlnbgcmmlpniaaGreatDoorErrAs
import Derived.Test.YtnlnbgcmmlpniaaGreatDoorM4
namespace Go.Proofs.YtnlnbgcmmlpniaaGreatDoor
open Go.RowKit Go.Extern.Stop Go.Stop Go.Extern

set_option maxRecDepth 100000 in
set_option maxHeartbeats 4000000 in
theorem as_hit (b : Nat) (s : ByteArray) (n : Int) (u0 u1 : Value) (w : World) (hg : w.cell? ⟨1, 0, none⟩ = some (.iface 197 (.agg #[.pointer (some ⟨2, 94, none⟩)]))) (hb : Blk w b #[u0, u1] 108) :
    Calls Tryz.prog 94 #[.iface 108 (.agg #[.string s, .int .i64 n]), .iface 153 (.pointer (some ⟨b, 0, none⟩))] w fun ev w' => ev = .returned (.bool true) ∧ Blk w' b #[.string s, .int .i64 n] 108 ∧ Below b w w' := by
  have x1 := @run_callFunc_extern Tryz.prog 129 _ (fun args => ReflectliteValue.unpack (args.getD 0 (.tuple #[]))) Tryz.func129 (by kernel_rfl) (by kernel_rfl) (by kernel_rfl) (by kernel_rfl)
  have x2 := @run_callFunc_extern Tryz.prog 130 _ (ReflectliteValue.methodAny (ReflectliteValue.valueError "reflectlite.Value.Type" 0) (fun t _ _ _ => ReflectliteType.toType t)) Tryz.func130 (by kernel_rfl) (by kernel_rfl) (by kernel_rfl) (by kernel_rfl)
  have x3 := @run_callFunc_extern Tryz.prog 131 _ (ReflectliteValue.method (ReflectliteValue.valueError "reflectlite.Value.IsNil" 0) ReflectliteValue.isNil) Tryz.func131 (by kernel_rfl) (by kernel_rfl) (by kernel_rfl) (by kernel_rfl)
  have x4 := @run_callFunc_extern Tryz.prog 179 _ eKind Tryz.func179 (by kernel_rfl) (by kernel_rfl) (by kernel_rfl) (by kernel_rfl)
  have x5 := @run_callFunc_extern Tryz.prog 189 _ (ReflectliteType.method ReflectliteType.elem) Tryz.func189 (by kernel_rfl) (by kernel_rfl) (by kernel_rfl) (by kernel_rfl)
  have x6 := @run_callFunc_extern Tryz.prog 190 _ (ReflectliteType.relation "Implements" ReflectliteType.implements_) Tryz.func190 (by kernel_rfl) (by kernel_rfl) (by kernel_rfl) (by kernel_rfl)
  have x7 := @run_callFunc_extern Tryz.prog 127 _ ReflectliteType.typeOf Tryz.func127 (by kernel_rfl) (by kernel_rfl) (by kernel_rfl) (by kernel_rfl)
  have x8 := @run_callFunc_extern Tryz.prog 187 _ (ReflectliteType.relation "AssignableTo" ReflectliteType.assignableTo) Tryz.func187 (by kernel_rfl) (by kernel_rfl) (by kernel_rfl) (by kernel_rfl)
  have x9 := @run_callFunc_extern Tryz.prog 144 _ (ReflectliteValue.method (ReflectliteValue.valueError "reflectlite.Value.Elem" 0) ReflectliteValue.elem) Tryz.func144 (by kernel_rfl) (by kernel_rfl) (by kernel_rfl) (by kernel_rfl)
  have x10 := @run_callFunc_extern Tryz.prog 145 _ ReflectliteValue.set Tryz.func145 (by kernel_rfl) (by kernel_rfl) (by kernel_rfl) (by kernel_rfl)
  have v1 := aValueOfP
  have v2 := aTypeP
  have m1 := aMKind
  have m2 := aMElem
  have m3 := aMImplements
  have m4 := aMAssignableTo
  have k1 := aKindP
  have k2 := aKindW
  have e1 := aElemP
  have i1 := aImplementsW
  have t1 := aTypeOfW
  have a1 := aAssignableW
  have v3 := aValueOfW
  have hlg : 1 < w.heap.size := World.block_lt_of_cell? w _ hg
  have hlb := hb.lt
  let W1 := w.alloc (.cells #[.pointer (some ⟨b, 0, none⟩)] 153)
  let C : Array Value := #[.pointer (some ⟨2, 153, none⟩), .pointer (some ⟨w.heap.size, 0, none⟩), .int .u64 150]
  let W2 := W1.alloc (.cells C 182)
  let W3 := W2.alloc (.cells C 182)
  let W4 := W3.alloc (.cells #[.string s, .int .i64 n] 108)
  have c1 : W2.cell? ⟨w.heap.size, 0, none⟩ = some (.pointer (some ⟨b, 0, none⟩)) := ((blk_new w #[.pointer (some ⟨b, 0, none⟩)] 153).alloc _).cell 0
  have c2 : W3.cell? ⟨w.heap.size, 0, none⟩ = some (.pointer (some ⟨b, 0, none⟩)) := (((blk_new w #[.pointer (some ⟨b, 0, none⟩)] 153).alloc _).alloc _).cell 0
  have n8 := aIsNilP ⟨w.heap.size, 0, none⟩ ⟨b, 0, none⟩ W2 c1
  have hg2 : W2.cell? ⟨1, 0, none⟩ = some (.iface 197 (.agg #[.pointer (some ⟨2, 94, none⟩)])) := by
    have hB : Below w.heap.size w W2 := ((Below.refl _ w).alloc (Nat.le_refl _) _).alloc (by simp) _
    exact (hB.cell hlg).trans hg
  have el := aElemVP ⟨w.heap.size, 0, none⟩ ⟨b, 0, none⟩ W3 c2
  have hz3 : W3.heap.size = w.heap.size + 1 + 1 + 1 := by simp [W3, W2, W1]
  have st := aSetW b (w.heap.size + 1 + 1 + 1) s n u0 u1 W4 (blk_at (w := W3) hz3.symm _ _) ((((hb.alloc _).alloc _).alloc _).alloc _)
  have hfin : Blk ((W4.setCell ⟨b, 0, none⟩ (.string s)).setCell ⟨b, 1, none⟩ (.int .i64 n)) b #[.string s, .int .i64 n] 108 := by
    have h := (((((hb.alloc (.cells #[.pointer (some ⟨b, 0, none⟩)] 153)).alloc (.cells C 182)).alloc (.cells C 182)).alloc (.cells #[.string s, .int .i64 n] 108)).set 0 (.string s)).set 1 (.int .i64 n)
    exact h
  have hbel : Below b w ((W4.setCell ⟨b, 0, none⟩ (.string s)).setCell ⟨b, 1, none⟩ (.int .i64 n)) := by
    have h4 : Below w.heap.size w W4 := ba (ba (ba (b0 w _) _) _) _
    exact ((h4.mono (Nat.le_of_lt hlb)).setCell (p := ⟨b, 0, none⟩) (Nat.le_refl _) _).setCell (p := ⟨b, 1, none⟩) (Nat.le_refl _) _
  have HF := Lib.hid (And.intro hfin hbel)
  clear hfin hbel c1 c2 hz3
  simp only [W1, W2, W3, W4, C] at *
  go_enter Tryz.func94, Tryz.ntmps94
  go_wp2
  refine wp_loop_rounds 1 ?_
  rw [rounds_succ]
  go_wp2
  go_ret
  exact ⟨rfl, HF.out.1, HF.out.2⟩
end Go.Proofs.YtnlnbgcmmlpniaaGreatDoor

namespace Go.Proofs.YtnlnbgcmmlpniaaGreatDoor
open Go.RowKit

set_option maxRecDepth 100000 in
set_option maxHeartbeats 2000000 in
theorem answer_any (S : Addr) (e0 : Value) (w : World) (hL : LaidP S w) (he : ErrP S e0) :
    Calls Tryz.prog 51 #[e0] w fun e w' => e = .returned (.int .i64 2) ∧ Below w.heap.size w w' := by
  have hB := b0 w (.cells #[.string ⟨#[]⟩, .int .i64 0] 108)
  have hK := blk_new w #[.string ⟨#[]⟩, .int .i64 0] 108
  have hL0 := hL.keep hB
  have hS := hL0.2
  have hle := Nat.le_refl w.heap.size
  rcases he with rfl | ⟨s, rfl⟩
  · go_enter Tryz.func51, Tryz.ntmps51
    go_wp2_with fail
    generalize w.alloc (.cells #[.string ⟨#[]⟩, .int .i64 0] 108) = W at hB hK hL0 hS ⊢
    refine (is_same S W).mono ?_
    rintro e w1 ⟨rfl, rfl⟩
    go_wp2_with fail
    go_ret
    exact ⟨rfl, hB⟩
  · go_enter Tryz.func51, Tryz.ntmps51
    go_wp2_with fail
    generalize w.alloc (.cells #[.string ⟨#[]⟩, .int .i64 0] 108) = W at hB hK hL0 hS ⊢
    generalize hb : w.heap.size = b at hK ⊢
    refine (is_wrong _ S W).mono ?_
    rintro e w1 ⟨rfl, rfl⟩
    go_wp2_with fail
    refine (as_hit b s 2 _ _ w1 hL0.1 hK).mono ?_
    rintro e w2 ⟨rfl, hK2, hb2⟩
    have c1 := hK2.cell 1
    go_wp2_with fail
    go_ret
    exact ⟨rfl, hB.trans (by rw [hb]; exact hb2)⟩
set_option maxRecDepth 100000 in
theorem answer_nil (S : Addr) (w : World) (hL : LaidP S w) :
    Calls Tryz.prog 51 #[.nilIface] w fun e w' => e = .returned (.int .i64 0) ∧ Below w.heap.size w w' := by
  have hB := b0 w (.cells #[.string ⟨#[]⟩, .int .i64 0] 108)
  have hL0 := hL.keep hB
  have hS := hL0.2
  go_enter Tryz.func51, Tryz.ntmps51
  go_wp2_with fail
  generalize w.alloc (.cells #[.string ⟨#[]⟩, .int .i64 0] 108) = W at hB hL0 hS ⊢
  refine (is_nil S W).mono ?_
  rintro e w1 ⟨rfl, rfl⟩
  go_wp2_with fail
  refine (as_nil _ w1).mono ?_
  rintro e w2 ⟨rfl, rfl⟩
  go_wp2_with fail
  go_ret
  exact ⟨rfl, hB⟩

set_option maxRecDepth 100000 in
set_option maxHeartbeats 1000000 in
theorem rEnd_any (S : Addr) (g : Nat) (st : Rest) (w : World) (hL : LaidP S w) (hR : RdrP S w g st) :
    Calls Tryz.prog 17 #[.pointer (some ⟨g, 0, none⟩)] w fun e w' => e = .returned (.int .i64 (endOf st)) ∧ RdrP S w' g st ∧ w.grownBy w' (some g) := by
  have HR := Lib.hid hR
  cases st with
  | none =>
    obtain ⟨e1, he1, hb⟩ := hR
    obtain ⟨t1, v1, rfl⟩ := errP_nil he1
    have c0 := hb.cell 0
    have c1 := hb.cell 1
    go_enter Tryz.func17, Tryz.ntmps17
    go_wp2_with fail
    refine (answer_any S _ w hL he1).mono ?_
    rintro e w1 ⟨rfl, hb1⟩
    go_wp2_with fail
    go_ret
    exact ⟨rfl, HR.out.below hb1, grown_below hb1 _⟩
  | some b =>
    obtain ⟨hl, s, hs, hb⟩ := hR
    have c0 := hb.cell 0
    have c1 := hb.cell 1
    cases b with
    | nil =>
      have hE : s.toList.isEmpty = true := by rw [ByteArray.toList_eq, hs]; rfl
      go_enter Tryz.func17, Tryz.ntmps17
      go_wp2_with fail
      refine (answer_nil S w hL).mono ?_
      rintro e w1 ⟨rfl, hb1⟩
      go_wp2_with fail
      go_ret
      exact ⟨rfl, HR.out.below hb1, grown_below hb1 _⟩
    | cons c r =>
      have hE : s.toList.isEmpty = false := by rw [ByteArray.toList_eq, hs]; rfl
      go_enter Tryz.func17, Tryz.ntmps17
      go_wp2_with fail
      refine (answer_any S _ w hL (.inr ⟨_, rfl⟩)).mono ?_
      rintro e w1 ⟨rfl, hb1⟩
      go_wp2_with fail
      go_ret
      exact ⟨rfl, HR.out.below hb1, grown_below hb1 _⟩
end Go.Proofs.YtnlnbgcmmlpniaaGreatDoor
