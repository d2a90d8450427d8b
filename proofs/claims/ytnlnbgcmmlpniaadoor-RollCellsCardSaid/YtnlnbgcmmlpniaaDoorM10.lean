/-
  WHAT IS PROVED: errors.As of Go's own text, walked, of an error of package pack's type 'wrong' with a target of that type: true, and the target holds it. Conditions: those typed in the theorem. · package pack's reader: answer (an error as a number), End: what they answer, as the chapter says. Conditions: those typed in each theorem. · how many bytes cells and lines come to (own work: plain facts), and words on strings of bytes.
-/
import Derived.Test.YtnlnbgcmmlpniaaDoorErrAs
import Derived.Test.YtnlnbgcmmlpniaaDoorM2
import Derived.Test.YtnlnbgcmmlpniaaDoorM6
import Derived.Test.YtnlnbgcmmlpniaaDoorM0
namespace Go.Proofs.YtnlnbgcmmlpniaaDoor
open Go.RowKit Go.Extern.Stop Go.Stop Go.Extern

set_option maxRecDepth 100000 in
set_option maxHeartbeats 4000000 in
theorem as_hit (b : Nat) (s : ByteArray) (n : Int) (u0 u1 : Value) (w : World) (hg : w.cell? ⟨1, 0, none⟩ = some (.iface 108 (.agg #[.pointer (some ⟨2, 52, none⟩)]))) (hb : Blk w b #[u0, u1] 66) :
    Calls Tryd.prog 53 #[.iface 66 (.agg #[.string s, .int .i64 n]), .iface 83 (.pointer (some ⟨b, 0, none⟩))] w fun ev w' => ev = .returned (.bool true) ∧ Blk w' b #[.string s, .int .i64 n] 66 ∧ Below b w w' := by
  have x1 := @run_callFunc_extern Tryd.prog 65 _ (fun args => ReflectliteValue.unpack (args.getD 0 (.tuple #[]))) Tryd.func65 (by kernel_rfl) (by kernel_rfl) (by kernel_rfl) (by kernel_rfl)
  have x2 := @run_callFunc_extern Tryd.prog 66 _ (ReflectliteValue.methodAny (ReflectliteValue.valueError "reflectlite.Value.Type" 0) (fun t _ _ _ => ReflectliteType.toType t)) Tryd.func66 (by kernel_rfl) (by kernel_rfl) (by kernel_rfl) (by kernel_rfl)
  have x3 := @run_callFunc_extern Tryd.prog 67 _ (ReflectliteValue.method (ReflectliteValue.valueError "reflectlite.Value.IsNil" 0) ReflectliteValue.isNil) Tryd.func67 (by kernel_rfl) (by kernel_rfl) (by kernel_rfl) (by kernel_rfl)
  have x4 := @run_callFunc_extern Tryd.prog 88 _ eKind Tryd.func88 (by kernel_rfl) (by kernel_rfl) (by kernel_rfl) (by kernel_rfl)
  have x5 := @run_callFunc_extern Tryd.prog 98 _ (ReflectliteType.method ReflectliteType.elem) Tryd.func98 (by kernel_rfl) (by kernel_rfl) (by kernel_rfl) (by kernel_rfl)
  have x6 := @run_callFunc_extern Tryd.prog 99 _ (ReflectliteType.relation "Implements" ReflectliteType.implements_) Tryd.func99 (by kernel_rfl) (by kernel_rfl) (by kernel_rfl) (by kernel_rfl)
  have x7 := @run_callFunc_extern Tryd.prog 63 _ ReflectliteType.typeOf Tryd.func63 (by kernel_rfl) (by kernel_rfl) (by kernel_rfl) (by kernel_rfl)
  have x8 := @run_callFunc_extern Tryd.prog 96 _ (ReflectliteType.relation "AssignableTo" ReflectliteType.assignableTo) Tryd.func96 (by kernel_rfl) (by kernel_rfl) (by kernel_rfl) (by kernel_rfl)
  have x9 := @run_callFunc_extern Tryd.prog 72 _ (ReflectliteValue.method (ReflectliteValue.valueError "reflectlite.Value.Elem" 0) ReflectliteValue.elem) Tryd.func72 (by kernel_rfl) (by kernel_rfl) (by kernel_rfl) (by kernel_rfl)
  have x10 := @run_callFunc_extern Tryd.prog 73 _ ReflectliteValue.set Tryd.func73 (by kernel_rfl) (by kernel_rfl) (by kernel_rfl) (by kernel_rfl)
  have v1 := aValueOfP
  have v2 := aTypeP
  have m1 := aMKind
  have m2 := aMElem
  have m3 := aMImplements
  have m4 := aMAssignableTo
  have k1 := aKindP
  have k2 := aKindW
  have e1 := aElemP
  have i1 := aImplementsW
  have t1 := aTypeOfW
  have a1 := aAssignableW
  have v3 := aValueOfW
  have hlg : 1 < w.heap.size := World.block_lt_of_cell? w _ hg
  have hlb := hb.lt
  let W1 := w.alloc (.cells #[.pointer (some ⟨b, 0, none⟩)] 83)
  let C : Array Value := #[.pointer (some ⟨2, 83, none⟩), .pointer (some ⟨w.heap.size, 0, none⟩), .int .u64 150]
  let W2 := W1.alloc (.cells C 97)
  let W3 := W2.alloc (.cells C 97)
  let W4 := W3.alloc (.cells #[.string s, .int .i64 n] 66)
  have c1 : W2.cell? ⟨w.heap.size, 0, none⟩ = some (.pointer (some ⟨b, 0, none⟩)) := ((blk_new w #[.pointer (some ⟨b, 0, none⟩)] 83).alloc _).cell 0
  have c2 : W3.cell? ⟨w.heap.size, 0, none⟩ = some (.pointer (some ⟨b, 0, none⟩)) := (((blk_new w #[.pointer (some ⟨b, 0, none⟩)] 83).alloc _).alloc _).cell 0
  have n8 := aIsNilP ⟨w.heap.size, 0, none⟩ ⟨b, 0, none⟩ W2 c1
  have hg2 : W2.cell? ⟨1, 0, none⟩ = some (.iface 108 (.agg #[.pointer (some ⟨2, 52, none⟩)])) := by
    have hB : Below w.heap.size w W2 := ((Below.refl _ w).alloc (Nat.le_refl _) _).alloc (by simp) _
    exact (hB.cell hlg).trans hg
  have el := aElemVP ⟨w.heap.size, 0, none⟩ ⟨b, 0, none⟩ W3 c2
  have hz3 : W3.heap.size = w.heap.size + 1 + 1 + 1 := by simp [W3, W2, W1]
  have st := aSetW b (w.heap.size + 1 + 1 + 1) s n u0 u1 W4 (blk_at (w := W3) hz3.symm _ _) ((((hb.alloc _).alloc _).alloc _).alloc _)
  have hfin : Blk ((W4.setCell ⟨b, 0, none⟩ (.string s)).setCell ⟨b, 1, none⟩ (.int .i64 n)) b #[.string s, .int .i64 n] 66 := by
    have h := (((((hb.alloc (.cells #[.pointer (some ⟨b, 0, none⟩)] 83)).alloc (.cells C 97)).alloc (.cells C 97)).alloc (.cells #[.string s, .int .i64 n] 66)).set 0 (.string s)).set 1 (.int .i64 n)
    exact h
  have hbel : Below b w ((W4.setCell ⟨b, 0, none⟩ (.string s)).setCell ⟨b, 1, none⟩ (.int .i64 n)) := by
    have h4 : Below w.heap.size w W4 := ba (ba (ba (b0 w _) _) _) _
    exact ((h4.mono (Nat.le_of_lt hlb)).setCell (p := ⟨b, 0, none⟩) (Nat.le_refl _) _).setCell (p := ⟨b, 1, none⟩) (Nat.le_refl _) _
  have HF := Lib.hid (And.intro hfin hbel)
  clear hfin hbel c1 c2 hz3
  simp only [W1, W2, W3, W4, C] at *
  go_enter Tryd.func53, Tryd.ntmps53
  go_wp2
  refine wp_loop_rounds 1 ?_
  rw [rounds_succ]
  go_wp2
  go_ret
  exact ⟨rfl, HF.out.1, HF.out.2⟩
end Go.Proofs.YtnlnbgcmmlpniaaDoor

namespace Go.Proofs.YtnlnbgcmmlpniaaDoor
open Go.RowKit

set_option maxRecDepth 100000 in
set_option maxHeartbeats 2000000 in
theorem answer_any (S : Addr) (e0 : Value) (w : World) (hL : LaidP S w) (he : ErrP S e0) :
    Calls Tryd.prog 29 #[e0] w fun e w' => e = .returned (.int .i64 2) ∧ Below w.heap.size w w' := by
  have hB := b0 w (.cells #[.string ⟨#[]⟩, .int .i64 0] 66)
  have hK := blk_new w #[.string ⟨#[]⟩, .int .i64 0] 66
  have hL0 := hL.keep hB
  have hS := hL0.2
  have hle := Nat.le_refl w.heap.size
  rcases he with rfl | ⟨s, rfl⟩
  · go_enter Tryd.func29, Tryd.ntmps29
    go_wp2_with fail
    generalize w.alloc (.cells #[.string ⟨#[]⟩, .int .i64 0] 66) = W at hB hK hL0 hS ⊢
    refine (is_same S W).mono ?_
    rintro e w1 ⟨rfl, rfl⟩
    go_wp2_with fail
    go_ret
    exact ⟨rfl, hB⟩
  · go_enter Tryd.func29, Tryd.ntmps29
    go_wp2_with fail
    generalize w.alloc (.cells #[.string ⟨#[]⟩, .int .i64 0] 66) = W at hB hK hL0 hS ⊢
    generalize hb : w.heap.size = b at hK ⊢
    refine (is_wrong _ S W).mono ?_
    rintro e w1 ⟨rfl, rfl⟩
    go_wp2_with fail
    refine (as_hit b s 2 _ _ w1 hL0.1 hK).mono ?_
    rintro e w2 ⟨rfl, hK2, hb2⟩
    have c1 := hK2.cell 1
    go_wp2_with fail
    go_ret
    exact ⟨rfl, hB.trans (by rw [hb]; exact hb2)⟩
set_option maxRecDepth 100000 in
theorem answer_nil (S : Addr) (w : World) (hL : LaidP S w) :
    Calls Tryd.prog 29 #[.nilIface] w fun e w' => e = .returned (.int .i64 0) ∧ Below w.heap.size w w' := by
  have hB := b0 w (.cells #[.string ⟨#[]⟩, .int .i64 0] 66)
  have hL0 := hL.keep hB
  have hS := hL0.2
  go_enter Tryd.func29, Tryd.ntmps29
  go_wp2_with fail
  generalize w.alloc (.cells #[.string ⟨#[]⟩, .int .i64 0] 66) = W at hB hL0 hS ⊢
  refine (is_nil S W).mono ?_
  rintro e w1 ⟨rfl, rfl⟩
  go_wp2_with fail
  refine (as_nil _ w1).mono ?_
  rintro e w2 ⟨rfl, rfl⟩
  go_wp2_with fail
  go_ret
  exact ⟨rfl, hB⟩

set_option maxRecDepth 100000 in
set_option maxHeartbeats 1000000 in
theorem rEnd_any (S : Addr) (g : Nat) (st : Rest) (w : World) (hL : LaidP S w) (hR : RdrP S w g st) :
    Calls Tryd.prog 11 #[.pointer (some ⟨g, 0, none⟩)] w fun e w' => e = .returned (.int .i64 (endOf st)) ∧ RdrP S w' g st ∧ w.grownBy w' (some g) := by
  have HR := Lib.hid hR
  cases st with
  | none =>
    obtain ⟨e1, he1, hb⟩ := hR
    obtain ⟨t1, v1, rfl⟩ := errP_nil he1
    have c0 := hb.cell 0
    have c1 := hb.cell 1
    go_enter Tryd.func11, Tryd.ntmps11
    go_wp2_with fail
    refine (answer_any S _ w hL he1).mono ?_
    rintro e w1 ⟨rfl, hb1⟩
    go_wp2_with fail
    go_ret
    exact ⟨rfl, HR.out.below hb1, grown_below hb1 _⟩
  | some b =>
    obtain ⟨hl, s, hs, hb⟩ := hR
    have c0 := hb.cell 0
    have c1 := hb.cell 1
    cases b with
    | nil =>
      have hE : s.toList.isEmpty = true := by rw [ByteArray.toList_eq, hs]; rfl
      go_enter Tryd.func11, Tryd.ntmps11
      go_wp2_with fail
      refine (answer_nil S w hL).mono ?_
      rintro e w1 ⟨rfl, hb1⟩
      go_wp2_with fail
      go_ret
      exact ⟨rfl, HR.out.below hb1, grown_below hb1 _⟩
    | cons c r =>
      have hE : s.toList.isEmpty = false := by rw [ByteArray.toList_eq, hs]; rfl
      go_enter Tryd.func11, Tryd.ntmps11
      go_wp2_with fail
      refine (answer_any S _ w hL (.inr ⟨_, rfl⟩)).mono ?_
      rintro e w1 ⟨rfl, hb1⟩
      go_wp2_with fail
      go_ret
      exact ⟨rfl, HR.out.below hb1, grown_below hb1 _⟩
end Go.Proofs.YtnlnbgcmmlpniaaDoor

namespace Go.Proofs.YtnlnbgcmmlpniaaDoor
open Go.RowKit

theorem text_most {s : ByteArray} (h : s.size ≤ 100) : (textB s.data.toList).length ≤ 109 := by
  have hl : s.data.toList.length = s.size := Array.length_toList
  have := numB_small (n := s.size) (by omega)
  unfold textB
  rw [List.length_append, hl]
  omega
theorem val_most {k n : Int} {s : ByteArray} (hk : k = 0 ∨ k = 1 ∨ k = 2) (h0 : -9223372036854775808 ≤ n) (h1 : n ≤ 9223372036854775807) (hs : s.size ≤ 100) : (valB k n s.data.toList).length ≤ 118 := by
  rcases hk with rfl | rfl | rfl
  · rw [valB_0]
    have := numB_small (n := 0) (by omega)
    omega
  · rw [valB_1, List.length_append]
    have := numB_small (n := 1) (by omega)
    have := numB_small (zig_lt h0 h1)
    omega
  · rw [valB_2, List.length_append]
    have := numB_small (n := 2) (by omega)
    have := text_most hs
    omega
theorem clB_most {c : Cl} (h : c.good = true) (hf : c.fits) : (clB c).length ≤ 300 := by
  obtain ⟨h1, h2, h3, h4, h5⟩ := cl_in h
  have a := text_most (s := c.ky) (by omega)
  have b := val_most (s := c.s) (goodB_in h5).1 hf.2.2.1 hf.2.2.2 (by omega)
  unfold clB
  rw [List.length_append]
  omega
theorem flat_most {α : Type} {E : α → List UInt8} {m : Nat} : ∀ (l : List α), (∀ x, x ∈ l → (E x).length ≤ m) → (l.flatMap E).length ≤ l.length * m
  | [], _ => by simp
  | x :: t, h => by
    have h1 := h x (List.mem_cons_self ..)
    have h2 := flat_most t fun y hy => h y (List.mem_cons_of_mem _ hy)
    rw [List.flatMap_cons, List.length_append, List.length_cons, Nat.succ_mul]
    omega
/-- A byte ahead of bytes, as strings. -/
theorem cat_one (b : UInt8) (m : List UInt8) (hm : m.length ≤ 90000) : ∃ sa sb : ByteArray, (⟨([b] ++ m).toArray⟩ : ByteArray) = sa ∧ (⟨m.toArray⟩ : ByteArray) = sb ∧ Op.stringOp .add ⟨#[b]⟩ sb = pure (.string ((⟨#[b]⟩ : ByteArray) ++ sb)) ∧ (sa.toList == ((⟨#[b]⟩ : ByteArray) ++ sb).toList) = true :=
  ⟨_, _, rfl, rfl, str_add' (by show (1 : Nat) ≤ _; omega) (by show m.toArray.size ≤ _; rw [List.size_toArray]; omega), by
    rw [ByteArray.toList_eq, ByteArray.toList_eq]
    simp⟩
theorem end_cases {bh : List UInt8} {m : Nat} (h : bh.length = m) : (endOf (some bh) = 0 ∧ m = 0) ∨ (endOf (some bh) = 2 ∧ m ≠ 0) := by
  subst h
  cases bh with
  | nil => exact .inl ⟨rfl, rfl⟩
  | cons => exact .inr ⟨rfl, by simp⟩
end Go.Proofs.YtnlnbgcmmlpniaaDoor
