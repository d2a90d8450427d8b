/-
  WHAT IS PROVED: deed.Line of any good operation is the plain function lineL's text.
-/
import Derived.Test.YtmilcgikncecnaaDoorLineMath
import Derived.Test.YtmilcgikncecnaaDoorDeedGood
import Derived.Test.YtmilcgikncecnaaDoorTexts
import Derived.StillTailTactics
import Derived.Deep.AppendLies
import Derived.Laws.OwnMore
import Derived.Laws.AppendOwn
namespace Go.Proofs.YtmilcgikncecnaaDoor
open Go.RowKit

set_option maxHeartbeats 1000000 in
theorem word_any (K : Int) (w : World) :
    Calls Tryd.prog 28 #[.int .i64 K] w fun e w' => e = .returned (.string ⟨(wordL K).toArray⟩) ∧ w = w' := by
  by_cases K1 : K = 1
  · subst K1
    go_enter Tryd.func28, Tryd.ntmps28
    go_wp2
    go_ret
    exact ⟨rfl, rfl⟩
  · have e1 : (K == 1) = false := by simpa using K1
    by_cases K2 : K = 2
    · subst K2
      go_enter Tryd.func28, Tryd.ntmps28
      go_wp2
      go_ret
      exact ⟨rfl, rfl⟩
    · have e2 : (K == 2) = false := by simpa using K2
      by_cases K3 : K = 3
      · subst K3
        go_enter Tryd.func28, Tryd.ntmps28
        go_wp2
        go_ret
        exact ⟨rfl, rfl⟩
      · have e3 : (K == 3) = false := by simpa using K3
        by_cases K4 : K = 4
        · subst K4
          go_enter Tryd.func28, Tryd.ntmps28
          go_wp2
          go_ret
          exact ⟨rfl, rfl⟩
        · have e4 : (K == 4) = false := by simpa using K4
          have R : Hid (wordL K = []) := by show _ = _; unfold wordL; rw [if_neg K1, if_neg K2, if_neg K3, if_neg K4]
          clear K1 K2 K3 K4
          go_enter Tryd.func28, Tryd.ntmps28
          go_wp2
          go_ret
          exact ⟨by rw [R.out]; rfl, rfl⟩

set_option maxHeartbeats 1000000 in
theorem told_any (K : Int) (w : World) :
    Calls Tryd.prog 29 #[.int .i64 K] w fun e w' => e = .returned (.int .i64 (toldN K)) ∧ w = w' := by
  by_cases K1 : K = 1
  · subst K1
    go_enter Tryd.func29, Tryd.ntmps29
    go_wp2
    go_ret
    exact ⟨rfl, rfl⟩
  · have e1 : (K == 1) = false := by simpa using K1
    by_cases K3 : K = 3
    · subst K3
      go_enter Tryd.func29, Tryd.ntmps29
      go_wp2
      go_ret
      exact ⟨rfl, rfl⟩
    · have e3 : (K == 3) = false := by simpa using K3
      by_cases K4 : K = 4
      · subst K4
        go_enter Tryd.func29, Tryd.ntmps29
        go_wp2
        go_ret
        exact ⟨rfl, rfl⟩
      · have e4 : (K == 4) = false := by simpa using K4
        have R : Hid ((toldN K : Int) = 0) := by show _ = _; unfold toldN; rw [if_neg (by omega), if_neg K4]; rfl
        clear K1 K3 K4
        go_enter Tryd.func29, Tryd.ntmps29
        go_wp2
        go_ret
        exact ⟨by rw [R.out]; rfl, rfl⟩

theorem infoString : (Tryd.prog.info? 9).map (fun i => (i.zero, i.size, i.bytes)) = some (some (.string ⟨#[]⟩), 1, 16) := by kernel_rfl
theorem below_grown {W W1 : World} (h : Below W.heap.size W W1) (row : Option Nat) : W.grownBy W1 row := ⟨h.os, h.tape, h.output, h.size, fun k hk _ => h.block k hk⟩
theorem row_keep {W W1 : World} {B n : Nat} {e : TypeId} {v : Value} {xs : List Value} (h : W.ownsRow B e 1 v n xs) (hb : Below W.heap.size W W1) : W1.ownsRow B e 1 v n xs := by
  cases hx : v.ownBlock with
  | none => exact h.kept (below_grown hb none) (Or.inl hx)
  | some k => exact h.kept (below_grown hb none) (Or.inr (by rw [hx]; simp))
theorem row_apart {W : World} {B n BV : Nat} {e t : TypeId} {v : Value} {xs : List Value} {cs : Array Value} (h : W.ownsRow B e 1 v n xs) (hb : Blk W BV cs t) (hne : e ≠ t) : v.ownBlock ≠ some BV := by
  rcases h.2 with ⟨rfl, _⟩ | ⟨g, cap, cur, rfl, _, hg, _⟩
  · simp [Value.ownBlock]
  · intro hx
    simp only [Value.ownBlock, Option.some.injEq] at hx
    subst hx
    unfold Blk at hb
    rw [hg] at hb
    simp only [Option.some.injEq, Obj.cells.injEq] at hb
    exact hne hb.2.1
theorem row_next {W w' : World} {B n BV : Nat} {e t : TypeId} {v : Value} {xs : List Value} {cs : Array Value} {w : World} (h : W.ownsRow B e 1 v n xs) (hb : Blk W BV cs t) (hne : e ≠ t) (o : Obj) (hB : Below B w W) (hz : B ≤ W.heap.size)
    (hg : (W.alloc o).grownBy w' v.ownBlock) : Blk w' BV cs t ∧ Below B w w' := by
  refine ⟨?_, (hB.alloc hz o).grown hg (by simp; omega) (fun k hk => (h.lt k hk).1)⟩
  have h1 := hb.alloc o
  exact (hg.block BV h1.lt (fun e => row_apart h hb hne e.symm)).trans h1

/-- What a round of Line's loop has. -/
def LineRel (B BV : Nat) (cs : Array Value) (w : World) (l : List ByteArray) (j : Nat) (p : Value) (wr : World) : Prop :=
  Blk wr BV cs 26 ∧ wr.ownsRow B 9 1 p (2 + j) ((l.take (2 + j)).map Value.string) ∧ Below B w wr
theorem row_form {W : World} {B n : Nat} {e : TypeId} {v : Value} {xs : List Value} (h : W.ownsRow B e 1 v (n + 1) xs) : ∃ (g cap : Nat), v = .slice (some ⟨g, 0, none⟩) (n + 1) cap ∧ n + 1 ≤ cap ∧ g < W.heap.size := by
  rcases h.2 with ⟨_, h0⟩ | ⟨g, cap, cur, hv, _, hg, hc, _⟩
  · omega
  · exact ⟨g, cap, hv, hc, (Array.getElem?_eq_some_iff.1 hg).1⟩
theorem row_join {W : World} {B n g cap : Nat} {l : List ByteArray} (h : W.ownsRow B 9 1 (.slice (some ⟨g, 0, none⟩) n cap) n (l.map Value.string)) : ∀ (j : Nat) x, l[j]? = some x → W.cell? ⟨g, 0 + j, none⟩ = some (.string x) := by
  intro j x hx
  have hl := h.1
  rw [List.length_map] at hl
  have hj := (List.getElem?_eq_some_iff.1 hx).1
  rw [Nat.zero_add, h.cellAt j (by omega), List.getElem?_map, hx]
  rfl
set_option maxRecDepth 100000 in
set_option maxHeartbeats 8000000 in
theorem line0 (K ka na kb nb : Int) (ky sa sb Z A B : ByteArray) (w : World) (hz : Z.size ≤ 3) (hk : ky.size ≤ 20) (_ha : A.size ≤ 200) (_hb : B.size ≤ 200) (_hL : LaidV w)
    (Hw : Hid (∀ W : World, Calls Tryd.prog 28 #[.int .i64 K] W fun e W' => e = .returned (.string Z) ∧ W = W'))
    (Ht : Hid (∀ W : World, Calls Tryd.prog 29 #[.int .i64 K] W fun e W' => e = .returned (.int .i64 0) ∧ W = W'))
    (_Ha : Hid (∀ W : World, LaidV W → Calls Tryd.prog 30 #[.agg #[.int .i64 ka, .int .i64 na, .string sa]] W fun e W' => e = .returned (.string A) ∧ Below W.heap.size W W'))
    (_Hb : Hid (∀ W : World, LaidV W → Calls Tryd.prog 30 #[.agg #[.int .i64 kb, .int .i64 nb, .string sb]] W fun e W' => e = .returned (.string B) ∧ Below W.heap.size W W')) :
    Calls Tryd.prog 17 #[opV K ky ka na sa kb nb sb] w fun e w' => e = .returned (.string ⟨(Lib.join (([Z, ky, A, B].take (2 + 0)).map (·.data.toList)) [32]).toArray⟩) ∧ Below w.heap.size w w' := by
  obtain ⟨i0, hi, hz0, hz1, hz2⟩ := info_parts infoString
  have hlen : (Lib.join (([Z, ky, A, B].take (2 + 0)).map (·.data.toList)) [32]).length ≤ 140737488355328 := by
    have l1 : Z.data.toList.length = Z.size := Array.length_toList
    have l2 : ky.data.toList.length = ky.size := Array.length_toList
    have l3 : A.data.toList.length = A.size := Array.length_toList
    have l4 : B.data.toList.length = B.size := Array.length_toList
    simp [Lib.join_cons, Lib.joinTail]
    omega
  have Hlen := Lib.hid hlen
  clear hlen
  go_enter Tryd.func17, Tryd.ntmps17
  go_wp2_with fail
  have hB := b0 w (.cells (opC K ky ka na sa kb nb sb) 28)
  have hC := Lib.hid (blk_new w (opC K ky ka na sa kb nb sb) 28)
  generalize w.alloc (.cells (opC K ky ka na sa kb nb sb) 28) = W at hC hB ⊢
  obtain ⟨d0, d1, d2, d3, d4, d5, d6, d7, d8⟩ := hC.out.c8
  go_region_held3 (fun w' => w'.cell? ⟨w.heap.size, 0, none⟩ = some (.int .i64 K) ∧ w'.cell? ⟨w.heap.size, 1, none⟩ = some (.string ky)) (first | exact ⟨d0, d1⟩ | exact ⟨(hC.out.alloc _).cell 0, (hC.out.alloc _).cell 1⟩) (first | (go_at_call 28; refine (Hw.out _).mono ?_; rintro e w1 ⟨rfl, rfl⟩))
  go_wp2_with fail
  clear d0 d1 d2 d3 d4 d5 d6 d7 d8
  have hP : Hid ((W.alloc (.cells #[.string Z, .string ky] 9)).drew.ownsRow w.heap.size 9 1 (.slice (some ⟨W.heap.size, 0, none⟩) 2 2) 2 [.string Z, .string ky]) := by
    refine ⟨rfl, Or.inr ⟨W.heap.size, 2, #[.string Z, .string ky], rfl, hB.size, ?_, by omega, by unfold maxLen; omega, rfl, rfl⟩⟩
    exact blk_new W _ _
  generalize W.heap.size = PB at hP ⊢
  replace hC : Hid (Blk (W.alloc (.cells #[.string Z, .string ky] 9)).drew w.heap.size (opC K ky ka na sa kb nb sb) 28) := hC.out.alloc _
  replace hB : Below w.heap.size w (W.alloc (.cells #[.string Z, .string ky] 9)).drew := (ba hB _).drew
  generalize (W.alloc (.cells #[.string Z, .string ky] 9)).drew = W2 at hP hC hB ⊢
  obtain ⟨d0, d1, d2, d3, d4, d5, d6, d7, d8⟩ := hC.out.c8
  go_region_held3 (fun w' => w'.cell? ⟨w.heap.size, 0, none⟩ = some (.int .i64 K) ∧ w'.cell? ⟨w.heap.size, 2, none⟩ = some (.int .i64 ka) ∧ w'.cell? ⟨w.heap.size, 3, none⟩ = some (.int .i64 na) ∧ w'.cell? ⟨w.heap.size, 4, none⟩ = some (.string sa) ∧ w'.cell? ⟨w.heap.size, 5, none⟩ = some (.int .i64 kb) ∧ w'.cell? ⟨w.heap.size, 6, none⟩ = some (.int .i64 nb) ∧ w'.cell? ⟨w.heap.size, 7, none⟩ = some (.string sb)) (first | exact ⟨d0, d2, d3, d4, d5, d6, d7⟩ | exact ⟨(hC.out.alloc _).cell 0, (hC.out.alloc _).cell 2, (hC.out.alloc _).cell 3, (hC.out.alloc _).cell 4, (hC.out.alloc _).cell 5, (hC.out.alloc _).cell 6, (hC.out.alloc _).cell 7⟩) (first | (go_at_call 29; refine (Ht.out _).mono ?_; rintro e w1 ⟨rfl, rfl⟩))
  · rename_i hHeld
    clear hHeld
    go_wp2_with fail
    clear d0 d1 d2 d3 d4 d5 d6 d7 d8
    have hRel : LineRel w.heap.size W2.heap.size #[.int .i64 ka, .int .i64 na, .string sa, .int .i64 kb, .int .i64 nb, .string sb] w [Z, ky, A, B] 0 (.slice (some ⟨PB, 0, none⟩) 2 2) (W2.alloc (.cells #[.int .i64 ka, .int .i64 na, .string sa, .int .i64 kb, .int .i64 nb, .string sb] 26)).drew :=
      ⟨blk_new W2 _ _, row_keep hP.out ((b0 W2 _).drew), (ba hB _).drew⟩
    generalize (W2.alloc (.cells #[.int .i64 ka, .int .i64 na, .string sa, .int .i64 kb, .int .i64 nb, .string sb] 26)).drew = W3 at hRel ⊢
    clear hP hC hB
    generalize W2.heap.size = BV at hRel ⊢
    have HRel := Lib.hid hRel
    clear hRel
    go_loopw [3, 22] (fun p i wr => ∃ j : Nat, j ≤ 0 ∧ i = .int .i64 j ∧ LineRel w.heap.size BV #[.int .i64 ka, .int .i64 na, .string sa, .int .i64 kb, .int .i64 nb, .string sb] w [Z, ky, A, B] j p wr) (fun _ i _ => 0 - (intOf i).toNat)
    case atStart => exact ⟨0, by omega, rfl, HRel.out⟩
    case round =>
      obtain ⟨j, hj, rfl, hV, hR, hB⟩ := hrel
      have HV := Lib.hid hV
      clear hV
      obtain rfl : j = 0 := by omega
      obtain ⟨g, cap, rfl, hcap, hg⟩ := row_form hR
      have hJ := fun (xs : List ByteArray) (hx : xs = [Z, ky, A, B].take (2 + 0)) => Tryd.strings_Join g 0 cap xs ⟨#[32]⟩ wr (by rw [hx]; exact row_join hR) hg (by rw [hx]; simp) (by rw [hx]; exact hcap) (by rw [hx]; exact Hlen.out)
      have hJ2 := hJ _ rfl
      have HJ := Lib.hid hJ2
      clear hJ hJ2 HV hR hg hcap Hlen
      go_wp2_with fail
      refine HJ.out.mono ?_
      rintro e w5 ⟨rfl, hb5⟩
      have hB5 := hB.trans (hb5.mono hB.size)
      go_wp2_with fail
      go_ret
      exact ⟨rfl, hB5⟩
  · rename_i hHeld
    clear hHeld
    go_wp2_with fail
    clear d0 d1 d2 d3 d4 d5 d6 d7 d8
    have hRel : LineRel w.heap.size W2.heap.size #[.int .i64 ka, .int .i64 na, .string sa, .int .i64 kb, .int .i64 nb, .string sb] w [Z, ky, A, B] 0 (.slice (some ⟨PB, 0, none⟩) 2 2) (W2.alloc (.cells #[.int .i64 ka, .int .i64 na, .string sa, .int .i64 kb, .int .i64 nb, .string sb] 26)).drew :=
      ⟨blk_new W2 _ _, row_keep hP.out ((b0 W2 _).drew), (ba hB _).drew⟩
    generalize (W2.alloc (.cells #[.int .i64 ka, .int .i64 na, .string sa, .int .i64 kb, .int .i64 nb, .string sb] 26)).drew = W3 at hRel ⊢
    clear hP hC hB
    generalize W2.heap.size = BV at hRel ⊢
    have HRel := Lib.hid hRel
    clear hRel
    go_loopw [3, 22] (fun p i wr => ∃ j : Nat, j ≤ 0 ∧ i = .int .i64 j ∧ LineRel w.heap.size BV #[.int .i64 ka, .int .i64 na, .string sa, .int .i64 kb, .int .i64 nb, .string sb] w [Z, ky, A, B] j p wr) (fun _ i _ => 0 - (intOf i).toNat)
    case atStart => exact ⟨0, by omega, rfl, HRel.out⟩
    case round =>
      obtain ⟨j, hj, rfl, hV, hR, hB⟩ := hrel
      have HV := Lib.hid hV
      clear hV
      obtain rfl : j = 0 := by omega
      obtain ⟨g, cap, rfl, hcap, hg⟩ := row_form hR
      have hJ := fun (xs : List ByteArray) (hx : xs = [Z, ky, A, B].take (2 + 0)) => Tryd.strings_Join g 0 cap xs ⟨#[32]⟩ wr (by rw [hx]; exact row_join hR) hg (by rw [hx]; simp) (by rw [hx]; exact hcap) (by rw [hx]; exact Hlen.out)
      have hJ2 := hJ _ rfl
      have HJ := Lib.hid hJ2
      clear hJ hJ2 HV hR hg hcap Hlen
      go_wp2_with fail
      refine HJ.out.mono ?_
      rintro e w5 ⟨rfl, hb5⟩
      have hB5 := hB.trans (hb5.mono hB.size)
      go_wp2_with fail
      go_ret
      exact ⟨rfl, hB5⟩
set_option maxRecDepth 100000 in
set_option maxHeartbeats 8000000 in
theorem line1 (K ka na kb nb : Int) (ky sa sb Z A B : ByteArray) (w : World) (hz : Z.size ≤ 3) (hk : ky.size ≤ 20) (ha : A.size ≤ 200) (_hb : B.size ≤ 200) (hL : LaidV w)
    (Hw : Hid (∀ W : World, Calls Tryd.prog 28 #[.int .i64 K] W fun e W' => e = .returned (.string Z) ∧ W = W'))
    (Ht : Hid (∀ W : World, Calls Tryd.prog 29 #[.int .i64 K] W fun e W' => e = .returned (.int .i64 1) ∧ W = W'))
    (Ha : Hid (∀ W : World, LaidV W → Calls Tryd.prog 30 #[.agg #[.int .i64 ka, .int .i64 na, .string sa]] W fun e W' => e = .returned (.string A) ∧ Below W.heap.size W W'))
    (_Hb : Hid (∀ W : World, LaidV W → Calls Tryd.prog 30 #[.agg #[.int .i64 kb, .int .i64 nb, .string sb]] W fun e W' => e = .returned (.string B) ∧ Below W.heap.size W W')) :
    Calls Tryd.prog 17 #[opV K ky ka na sa kb nb sb] w fun e w' => e = .returned (.string ⟨(Lib.join (([Z, ky, A, B].take (2 + 1)).map (·.data.toList)) [32]).toArray⟩) ∧ Below w.heap.size w w' := by
  obtain ⟨i0, hi, hz0, hz1, hz2⟩ := info_parts infoString
  have hlen : (Lib.join (([Z, ky, A, B].take (2 + 1)).map (·.data.toList)) [32]).length ≤ 140737488355328 := by
    have l1 : Z.data.toList.length = Z.size := Array.length_toList
    have l2 : ky.data.toList.length = ky.size := Array.length_toList
    have l3 : A.data.toList.length = A.size := Array.length_toList
    have l4 : B.data.toList.length = B.size := Array.length_toList
    simp [Lib.join_cons, Lib.joinTail]
    omega
  have Hlen := Lib.hid hlen
  clear hlen
  go_enter Tryd.func17, Tryd.ntmps17
  go_wp2_with fail
  have hB := b0 w (.cells (opC K ky ka na sa kb nb sb) 28)
  have hC := Lib.hid (blk_new w (opC K ky ka na sa kb nb sb) 28)
  generalize w.alloc (.cells (opC K ky ka na sa kb nb sb) 28) = W at hC hB ⊢
  obtain ⟨d0, d1, d2, d3, d4, d5, d6, d7, d8⟩ := hC.out.c8
  go_region_held3 (fun w' => w'.cell? ⟨w.heap.size, 0, none⟩ = some (.int .i64 K) ∧ w'.cell? ⟨w.heap.size, 1, none⟩ = some (.string ky)) (first | exact ⟨d0, d1⟩ | exact ⟨(hC.out.alloc _).cell 0, (hC.out.alloc _).cell 1⟩) (first | (go_at_call 28; refine (Hw.out _).mono ?_; rintro e w1 ⟨rfl, rfl⟩))
  go_wp2_with fail
  clear d0 d1 d2 d3 d4 d5 d6 d7 d8
  have hP : Hid ((W.alloc (.cells #[.string Z, .string ky] 9)).drew.ownsRow w.heap.size 9 1 (.slice (some ⟨W.heap.size, 0, none⟩) 2 2) 2 [.string Z, .string ky]) := by
    refine ⟨rfl, Or.inr ⟨W.heap.size, 2, #[.string Z, .string ky], rfl, hB.size, ?_, by omega, by unfold maxLen; omega, rfl, rfl⟩⟩
    exact blk_new W _ _
  generalize W.heap.size = PB at hP ⊢
  replace hC : Hid (Blk (W.alloc (.cells #[.string Z, .string ky] 9)).drew w.heap.size (opC K ky ka na sa kb nb sb) 28) := hC.out.alloc _
  replace hB : Below w.heap.size w (W.alloc (.cells #[.string Z, .string ky] 9)).drew := (ba hB _).drew
  generalize (W.alloc (.cells #[.string Z, .string ky] 9)).drew = W2 at hP hC hB ⊢
  obtain ⟨d0, d1, d2, d3, d4, d5, d6, d7, d8⟩ := hC.out.c8
  go_region_held3 (fun w' => w'.cell? ⟨w.heap.size, 0, none⟩ = some (.int .i64 K) ∧ w'.cell? ⟨w.heap.size, 2, none⟩ = some (.int .i64 ka) ∧ w'.cell? ⟨w.heap.size, 3, none⟩ = some (.int .i64 na) ∧ w'.cell? ⟨w.heap.size, 4, none⟩ = some (.string sa) ∧ w'.cell? ⟨w.heap.size, 5, none⟩ = some (.int .i64 kb) ∧ w'.cell? ⟨w.heap.size, 6, none⟩ = some (.int .i64 nb) ∧ w'.cell? ⟨w.heap.size, 7, none⟩ = some (.string sb)) (first | exact ⟨d0, d2, d3, d4, d5, d6, d7⟩ | exact ⟨(hC.out.alloc _).cell 0, (hC.out.alloc _).cell 2, (hC.out.alloc _).cell 3, (hC.out.alloc _).cell 4, (hC.out.alloc _).cell 5, (hC.out.alloc _).cell 6, (hC.out.alloc _).cell 7⟩) (first | (go_at_call 29; refine (Ht.out _).mono ?_; rintro e w1 ⟨rfl, rfl⟩))
  · rename_i hHeld
    clear hHeld
    go_wp2_with fail
    clear d0 d1 d2 d3 d4 d5 d6 d7 d8
    have hRel : LineRel w.heap.size W2.heap.size #[.int .i64 ka, .int .i64 na, .string sa, .int .i64 kb, .int .i64 nb, .string sb] w [Z, ky, A, B] 0 (.slice (some ⟨PB, 0, none⟩) 2 2) (W2.alloc (.cells #[.int .i64 ka, .int .i64 na, .string sa, .int .i64 kb, .int .i64 nb, .string sb] 26)).drew :=
      ⟨blk_new W2 _ _, row_keep hP.out ((b0 W2 _).drew), (ba hB _).drew⟩
    generalize (W2.alloc (.cells #[.int .i64 ka, .int .i64 na, .string sa, .int .i64 kb, .int .i64 nb, .string sb] 26)).drew = W3 at hRel ⊢
    clear hP hC hB
    generalize W2.heap.size = BV at hRel ⊢
    have HRel := Lib.hid hRel
    clear hRel
    go_loopw [3, 22] (fun p i wr => ∃ j : Nat, j ≤ 1 ∧ i = .int .i64 j ∧ LineRel w.heap.size BV #[.int .i64 ka, .int .i64 na, .string sa, .int .i64 kb, .int .i64 nb, .string sb] w [Z, ky, A, B] j p wr) (fun _ i _ => 1 - (intOf i).toNat)
    case atStart => exact ⟨0, by omega, rfl, HRel.out⟩
    case round =>
      obtain ⟨j, hj, rfl, hV, hR, hB⟩ := hrel
      have HV := Lib.hid hV
      clear hV
      by_cases j0 : j = 0
      · subst j0
        have c0 := HV.out.cell 0
        have c1 := HV.out.cell 1
        have c2 := HV.out.cell 2
        have hlv := HV.out.lt
        go_wp2_with fail
        have hV4 := HV.out.alloc (.cells #[.int .i64 ka, .int .i64 na, .string sa] 26)
        have hR4 := World.ownsRow.alloc hR (.cells #[.int .i64 ka, .int .i64 na, .string sa] 26)
        have hB4 := ba hB (.cells #[.int .i64 ka, .int .i64 na, .string sa] 26)
        have hL4 := hL.keep hB4
        refine (Ha.out _ hL4).mono ?_
        rintro e w5 ⟨rfl, hb5⟩
        have HV5 := Lib.hid (hV4.keep hb5)
        have hR5 := row_keep hR4 hb5
        have hB5 := bt hB4 hb5
        have hz5 := hB5.size
        clear hV4 hR4 hB4 hL4 c0 c1 c2 hlv HV hR hB hb5
        go_wp2_with (at_builtin; refine wpList_append_own _ rfl _ _ 48 rfl w.heap.size 9 i0 (.string ⟨#[]⟩) 1 16 Tryd.underlying48 hi hz0 hz1 hz2 rfl (by decide) _ _ _ rfl (World.ownsRow.alloc hR5 _) ⟨w5.heap.size, 0, none⟩ 1 1 [.string A] rfl rfl ?c1_0a ?c2_0a ?c3_0a ?c4_0a ?c5_0a ?_)
        case c1_0a =>
          intro j u hj
          match j, hj with
          | 0, hj => simp at hj; subst hj; simp [Addr.add]
        case c2_0a => intro u hu; simp at hu; subst hu; rfl
        case c3_0a => unfold maxLen; simp <;> omega
        case c4_0a => simp <;> omega
        case c5_0a => simp; omega
        intro v' w6 hown' hgrow _
        obtain ⟨hV6, hB6⟩ := row_next hR5 HV5.out (by decide) _ hB5 hz5 hgrow
        clear hgrow hR5 HV5 hB5
        go_wp2_with fail
        go_roundw
        case rel => exact ⟨1, by omega, by go_num, hV6, hown', hB6⟩
        case measure => simp [intOf] <;> omega
      · skip
        obtain rfl : j = 1 := by omega
        obtain ⟨g, cap, rfl, hcap, hg⟩ := row_form hR
        have hJ := fun (xs : List ByteArray) (hx : xs = [Z, ky, A, B].take (2 + 1)) => Tryd.strings_Join g 0 cap xs ⟨#[32]⟩ wr (by rw [hx]; exact row_join hR) hg (by rw [hx]; simp) (by rw [hx]; exact hcap) (by rw [hx]; exact Hlen.out)
        have hJ2 := hJ _ rfl
        have HJ := Lib.hid hJ2
        clear hJ hJ2 HV hR hg hcap Hlen
        go_wp2_with fail
        refine HJ.out.mono ?_
        rintro e w5 ⟨rfl, hb5⟩
        have hB5 := hB.trans (hb5.mono hB.size)
        go_wp2_with fail
        go_ret
        exact ⟨rfl, hB5⟩
  · rename_i hHeld
    clear hHeld
    go_wp2_with fail
    clear d0 d1 d2 d3 d4 d5 d6 d7 d8
    have hRel : LineRel w.heap.size W2.heap.size #[.int .i64 ka, .int .i64 na, .string sa, .int .i64 kb, .int .i64 nb, .string sb] w [Z, ky, A, B] 0 (.slice (some ⟨PB, 0, none⟩) 2 2) (W2.alloc (.cells #[.int .i64 ka, .int .i64 na, .string sa, .int .i64 kb, .int .i64 nb, .string sb] 26)).drew :=
      ⟨blk_new W2 _ _, row_keep hP.out ((b0 W2 _).drew), (ba hB _).drew⟩
    generalize (W2.alloc (.cells #[.int .i64 ka, .int .i64 na, .string sa, .int .i64 kb, .int .i64 nb, .string sb] 26)).drew = W3 at hRel ⊢
    clear hP hC hB
    generalize W2.heap.size = BV at hRel ⊢
    have HRel := Lib.hid hRel
    clear hRel
    go_loopw [3, 22] (fun p i wr => ∃ j : Nat, j ≤ 1 ∧ i = .int .i64 j ∧ LineRel w.heap.size BV #[.int .i64 ka, .int .i64 na, .string sa, .int .i64 kb, .int .i64 nb, .string sb] w [Z, ky, A, B] j p wr) (fun _ i _ => 1 - (intOf i).toNat)
    case atStart => exact ⟨0, by omega, rfl, HRel.out⟩
    case round =>
      obtain ⟨j, hj, rfl, hV, hR, hB⟩ := hrel
      have HV := Lib.hid hV
      clear hV
      by_cases j0 : j = 0
      · subst j0
        have c0 := HV.out.cell 0
        have c1 := HV.out.cell 1
        have c2 := HV.out.cell 2
        have hlv := HV.out.lt
        go_wp2_with fail
        have hV4 := HV.out.alloc (.cells #[.int .i64 ka, .int .i64 na, .string sa] 26)
        have hR4 := World.ownsRow.alloc hR (.cells #[.int .i64 ka, .int .i64 na, .string sa] 26)
        have hB4 := ba hB (.cells #[.int .i64 ka, .int .i64 na, .string sa] 26)
        have hL4 := hL.keep hB4
        refine (Ha.out _ hL4).mono ?_
        rintro e w5 ⟨rfl, hb5⟩
        have HV5 := Lib.hid (hV4.keep hb5)
        have hR5 := row_keep hR4 hb5
        have hB5 := bt hB4 hb5
        have hz5 := hB5.size
        clear hV4 hR4 hB4 hL4 c0 c1 c2 hlv HV hR hB hb5
        go_wp2_with (at_builtin; refine wpList_append_own _ rfl _ _ 48 rfl w.heap.size 9 i0 (.string ⟨#[]⟩) 1 16 Tryd.underlying48 hi hz0 hz1 hz2 rfl (by decide) _ _ _ rfl (World.ownsRow.alloc hR5 _) ⟨w5.heap.size, 0, none⟩ 1 1 [.string A] rfl rfl ?c1_0b ?c2_0b ?c3_0b ?c4_0b ?c5_0b ?_)
        case c1_0b =>
          intro j u hj
          match j, hj with
          | 0, hj => simp at hj; subst hj; simp [Addr.add]
        case c2_0b => intro u hu; simp at hu; subst hu; rfl
        case c3_0b => unfold maxLen; simp <;> omega
        case c4_0b => simp <;> omega
        case c5_0b => simp; omega
        intro v' w6 hown' hgrow _
        obtain ⟨hV6, hB6⟩ := row_next hR5 HV5.out (by decide) _ hB5 hz5 hgrow
        clear hgrow hR5 HV5 hB5
        go_wp2_with fail
        go_roundw
        case rel => exact ⟨1, by omega, by go_num, hV6, hown', hB6⟩
        case measure => simp [intOf] <;> omega
      · skip
        obtain rfl : j = 1 := by omega
        obtain ⟨g, cap, rfl, hcap, hg⟩ := row_form hR
        have hJ := fun (xs : List ByteArray) (hx : xs = [Z, ky, A, B].take (2 + 1)) => Tryd.strings_Join g 0 cap xs ⟨#[32]⟩ wr (by rw [hx]; exact row_join hR) hg (by rw [hx]; simp) (by rw [hx]; exact hcap) (by rw [hx]; exact Hlen.out)
        have hJ2 := hJ _ rfl
        have HJ := Lib.hid hJ2
        clear hJ hJ2 HV hR hg hcap Hlen
        go_wp2_with fail
        refine HJ.out.mono ?_
        rintro e w5 ⟨rfl, hb5⟩
        have hB5 := hB.trans (hb5.mono hB.size)
        go_wp2_with fail
        go_ret
        exact ⟨rfl, hB5⟩
set_option maxRecDepth 100000 in
set_option maxHeartbeats 8000000 in
theorem line2 (K ka na kb nb : Int) (ky sa sb Z A B : ByteArray) (w : World) (hz : Z.size ≤ 3) (hk : ky.size ≤ 20) (ha : A.size ≤ 200) (hb : B.size ≤ 200) (hL : LaidV w)
    (Hw : Hid (∀ W : World, Calls Tryd.prog 28 #[.int .i64 K] W fun e W' => e = .returned (.string Z) ∧ W = W'))
    (Ht : Hid (∀ W : World, Calls Tryd.prog 29 #[.int .i64 K] W fun e W' => e = .returned (.int .i64 2) ∧ W = W'))
    (Ha : Hid (∀ W : World, LaidV W → Calls Tryd.prog 30 #[.agg #[.int .i64 ka, .int .i64 na, .string sa]] W fun e W' => e = .returned (.string A) ∧ Below W.heap.size W W'))
    (Hb : Hid (∀ W : World, LaidV W → Calls Tryd.prog 30 #[.agg #[.int .i64 kb, .int .i64 nb, .string sb]] W fun e W' => e = .returned (.string B) ∧ Below W.heap.size W W')) :
    Calls Tryd.prog 17 #[opV K ky ka na sa kb nb sb] w fun e w' => e = .returned (.string ⟨(Lib.join (([Z, ky, A, B].take (2 + 2)).map (·.data.toList)) [32]).toArray⟩) ∧ Below w.heap.size w w' := by
  obtain ⟨i0, hi, hz0, hz1, hz2⟩ := info_parts infoString
  have hlen : (Lib.join (([Z, ky, A, B].take (2 + 2)).map (·.data.toList)) [32]).length ≤ 140737488355328 := by
    have l1 : Z.data.toList.length = Z.size := Array.length_toList
    have l2 : ky.data.toList.length = ky.size := Array.length_toList
    have l3 : A.data.toList.length = A.size := Array.length_toList
    have l4 : B.data.toList.length = B.size := Array.length_toList
    simp [Lib.join_cons, Lib.joinTail]
    omega
  have Hlen := Lib.hid hlen
  clear hlen
  go_enter Tryd.func17, Tryd.ntmps17
  go_wp2_with fail
  have hB := b0 w (.cells (opC K ky ka na sa kb nb sb) 28)
  have hC := Lib.hid (blk_new w (opC K ky ka na sa kb nb sb) 28)
  generalize w.alloc (.cells (opC K ky ka na sa kb nb sb) 28) = W at hC hB ⊢
  obtain ⟨d0, d1, d2, d3, d4, d5, d6, d7, d8⟩ := hC.out.c8
  go_region_held3 (fun w' => w'.cell? ⟨w.heap.size, 0, none⟩ = some (.int .i64 K) ∧ w'.cell? ⟨w.heap.size, 1, none⟩ = some (.string ky)) (first | exact ⟨d0, d1⟩ | exact ⟨(hC.out.alloc _).cell 0, (hC.out.alloc _).cell 1⟩) (first | (go_at_call 28; refine (Hw.out _).mono ?_; rintro e w1 ⟨rfl, rfl⟩))
  go_wp2_with fail
  clear d0 d1 d2 d3 d4 d5 d6 d7 d8
  have hP : Hid ((W.alloc (.cells #[.string Z, .string ky] 9)).drew.ownsRow w.heap.size 9 1 (.slice (some ⟨W.heap.size, 0, none⟩) 2 2) 2 [.string Z, .string ky]) := by
    refine ⟨rfl, Or.inr ⟨W.heap.size, 2, #[.string Z, .string ky], rfl, hB.size, ?_, by omega, by unfold maxLen; omega, rfl, rfl⟩⟩
    exact blk_new W _ _
  generalize W.heap.size = PB at hP ⊢
  replace hC : Hid (Blk (W.alloc (.cells #[.string Z, .string ky] 9)).drew w.heap.size (opC K ky ka na sa kb nb sb) 28) := hC.out.alloc _
  replace hB : Below w.heap.size w (W.alloc (.cells #[.string Z, .string ky] 9)).drew := (ba hB _).drew
  generalize (W.alloc (.cells #[.string Z, .string ky] 9)).drew = W2 at hP hC hB ⊢
  obtain ⟨d0, d1, d2, d3, d4, d5, d6, d7, d8⟩ := hC.out.c8
  go_region_held3 (fun w' => w'.cell? ⟨w.heap.size, 0, none⟩ = some (.int .i64 K) ∧ w'.cell? ⟨w.heap.size, 2, none⟩ = some (.int .i64 ka) ∧ w'.cell? ⟨w.heap.size, 3, none⟩ = some (.int .i64 na) ∧ w'.cell? ⟨w.heap.size, 4, none⟩ = some (.string sa) ∧ w'.cell? ⟨w.heap.size, 5, none⟩ = some (.int .i64 kb) ∧ w'.cell? ⟨w.heap.size, 6, none⟩ = some (.int .i64 nb) ∧ w'.cell? ⟨w.heap.size, 7, none⟩ = some (.string sb)) (first | exact ⟨d0, d2, d3, d4, d5, d6, d7⟩ | exact ⟨(hC.out.alloc _).cell 0, (hC.out.alloc _).cell 2, (hC.out.alloc _).cell 3, (hC.out.alloc _).cell 4, (hC.out.alloc _).cell 5, (hC.out.alloc _).cell 6, (hC.out.alloc _).cell 7⟩) (first | (go_at_call 29; refine (Ht.out _).mono ?_; rintro e w1 ⟨rfl, rfl⟩))
  · rename_i hHeld
    clear hHeld
    go_wp2_with fail
    clear d0 d1 d2 d3 d4 d5 d6 d7 d8
    have hRel : LineRel w.heap.size W2.heap.size #[.int .i64 ka, .int .i64 na, .string sa, .int .i64 kb, .int .i64 nb, .string sb] w [Z, ky, A, B] 0 (.slice (some ⟨PB, 0, none⟩) 2 2) (W2.alloc (.cells #[.int .i64 ka, .int .i64 na, .string sa, .int .i64 kb, .int .i64 nb, .string sb] 26)).drew :=
      ⟨blk_new W2 _ _, row_keep hP.out ((b0 W2 _).drew), (ba hB _).drew⟩
    generalize (W2.alloc (.cells #[.int .i64 ka, .int .i64 na, .string sa, .int .i64 kb, .int .i64 nb, .string sb] 26)).drew = W3 at hRel ⊢
    clear hP hC hB
    generalize W2.heap.size = BV at hRel ⊢
    have HRel := Lib.hid hRel
    clear hRel
    go_loopw [3, 22] (fun p i wr => ∃ j : Nat, j ≤ 2 ∧ i = .int .i64 j ∧ LineRel w.heap.size BV #[.int .i64 ka, .int .i64 na, .string sa, .int .i64 kb, .int .i64 nb, .string sb] w [Z, ky, A, B] j p wr) (fun _ i _ => 2 - (intOf i).toNat)
    case atStart => exact ⟨0, by omega, rfl, HRel.out⟩
    case round =>
      obtain ⟨j, hj, rfl, hV, hR, hB⟩ := hrel
      have HV := Lib.hid hV
      clear hV
      by_cases j0 : j = 0
      · subst j0
        have c0 := HV.out.cell 0
        have c1 := HV.out.cell 1
        have c2 := HV.out.cell 2
        have hlv := HV.out.lt
        go_wp2_with fail
        have hV4 := HV.out.alloc (.cells #[.int .i64 ka, .int .i64 na, .string sa] 26)
        have hR4 := World.ownsRow.alloc hR (.cells #[.int .i64 ka, .int .i64 na, .string sa] 26)
        have hB4 := ba hB (.cells #[.int .i64 ka, .int .i64 na, .string sa] 26)
        have hL4 := hL.keep hB4
        refine (Ha.out _ hL4).mono ?_
        rintro e w5 ⟨rfl, hb5⟩
        have HV5 := Lib.hid (hV4.keep hb5)
        have hR5 := row_keep hR4 hb5
        have hB5 := bt hB4 hb5
        have hz5 := hB5.size
        clear hV4 hR4 hB4 hL4 c0 c1 c2 hlv HV hR hB hb5
        go_wp2_with (at_builtin; refine wpList_append_own _ rfl _ _ 48 rfl w.heap.size 9 i0 (.string ⟨#[]⟩) 1 16 Tryd.underlying48 hi hz0 hz1 hz2 rfl (by decide) _ _ _ rfl (World.ownsRow.alloc hR5 _) ⟨w5.heap.size, 0, none⟩ 1 1 [.string A] rfl rfl ?c1_0a ?c2_0a ?c3_0a ?c4_0a ?c5_0a ?_)
        case c1_0a =>
          intro j u hj
          match j, hj with
          | 0, hj => simp at hj; subst hj; simp [Addr.add]
        case c2_0a => intro u hu; simp at hu; subst hu; rfl
        case c3_0a => unfold maxLen; simp <;> omega
        case c4_0a => simp <;> omega
        case c5_0a => simp; omega
        intro v' w6 hown' hgrow _
        obtain ⟨hV6, hB6⟩ := row_next hR5 HV5.out (by decide) _ hB5 hz5 hgrow
        clear hgrow hR5 HV5 hB5
        go_wp2_with fail
        go_roundw
        case rel => exact ⟨1, by omega, by go_num, hV6, hown', hB6⟩
        case measure => simp [intOf] <;> omega
      · skip
        by_cases j1 : j = 1
        · subst j1
          have c0 := HV.out.cell 3
          have c1 := HV.out.cell 4
          have c2 := HV.out.cell 5
          have hlv := HV.out.lt
          go_wp2_with fail
          have hV4 := HV.out.alloc (.cells #[.int .i64 kb, .int .i64 nb, .string sb] 26)
          have hR4 := World.ownsRow.alloc hR (.cells #[.int .i64 kb, .int .i64 nb, .string sb] 26)
          have hB4 := ba hB (.cells #[.int .i64 kb, .int .i64 nb, .string sb] 26)
          have hL4 := hL.keep hB4
          refine (Hb.out _ hL4).mono ?_
          rintro e w5 ⟨rfl, hb5⟩
          have HV5 := Lib.hid (hV4.keep hb5)
          have hR5 := row_keep hR4 hb5
          have hB5 := bt hB4 hb5
          have hz5 := hB5.size
          clear hV4 hR4 hB4 hL4 c0 c1 c2 hlv HV hR hB hb5
          go_wp2_with (at_builtin; refine wpList_append_own _ rfl _ _ 48 rfl w.heap.size 9 i0 (.string ⟨#[]⟩) 1 16 Tryd.underlying48 hi hz0 hz1 hz2 rfl (by decide) _ _ _ rfl (World.ownsRow.alloc hR5 _) ⟨w5.heap.size, 0, none⟩ 1 1 [.string B] rfl rfl ?c1_1a ?c2_1a ?c3_1a ?c4_1a ?c5_1a ?_)
          case c1_1a =>
            intro j u hj
            match j, hj with
            | 0, hj => simp at hj; subst hj; simp [Addr.add]
          case c2_1a => intro u hu; simp at hu; subst hu; rfl
          case c3_1a => unfold maxLen; simp <;> omega
          case c4_1a => simp <;> omega
          case c5_1a => simp; omega
          intro v' w6 hown' hgrow _
          obtain ⟨hV6, hB6⟩ := row_next hR5 HV5.out (by decide) _ hB5 hz5 hgrow
          clear hgrow hR5 HV5 hB5
          go_wp2_with fail
          go_roundw
          case rel => exact ⟨2, by omega, by go_num, hV6, hown', hB6⟩
          case measure => simp [intOf] <;> omega
        · skip
          obtain rfl : j = 2 := by omega
          obtain ⟨g, cap, rfl, hcap, hg⟩ := row_form hR
          have hJ := fun (xs : List ByteArray) (hx : xs = [Z, ky, A, B].take (2 + 2)) => Tryd.strings_Join g 0 cap xs ⟨#[32]⟩ wr (by rw [hx]; exact row_join hR) hg (by rw [hx]; simp) (by rw [hx]; exact hcap) (by rw [hx]; exact Hlen.out)
          have hJ2 := hJ _ rfl
          have HJ := Lib.hid hJ2
          clear hJ hJ2 HV hR hg hcap Hlen
          go_wp2_with fail
          refine HJ.out.mono ?_
          rintro e w5 ⟨rfl, hb5⟩
          have hB5 := hB.trans (hb5.mono hB.size)
          go_wp2_with fail
          go_ret
          exact ⟨rfl, hB5⟩
  · rename_i hHeld
    clear hHeld
    go_wp2_with fail
    clear d0 d1 d2 d3 d4 d5 d6 d7 d8
    have hRel : LineRel w.heap.size W2.heap.size #[.int .i64 ka, .int .i64 na, .string sa, .int .i64 kb, .int .i64 nb, .string sb] w [Z, ky, A, B] 0 (.slice (some ⟨PB, 0, none⟩) 2 2) (W2.alloc (.cells #[.int .i64 ka, .int .i64 na, .string sa, .int .i64 kb, .int .i64 nb, .string sb] 26)).drew :=
      ⟨blk_new W2 _ _, row_keep hP.out ((b0 W2 _).drew), (ba hB _).drew⟩
    generalize (W2.alloc (.cells #[.int .i64 ka, .int .i64 na, .string sa, .int .i64 kb, .int .i64 nb, .string sb] 26)).drew = W3 at hRel ⊢
    clear hP hC hB
    generalize W2.heap.size = BV at hRel ⊢
    have HRel := Lib.hid hRel
    clear hRel
    go_loopw [3, 22] (fun p i wr => ∃ j : Nat, j ≤ 2 ∧ i = .int .i64 j ∧ LineRel w.heap.size BV #[.int .i64 ka, .int .i64 na, .string sa, .int .i64 kb, .int .i64 nb, .string sb] w [Z, ky, A, B] j p wr) (fun _ i _ => 2 - (intOf i).toNat)
    case atStart => exact ⟨0, by omega, rfl, HRel.out⟩
    case round =>
      obtain ⟨j, hj, rfl, hV, hR, hB⟩ := hrel
      have HV := Lib.hid hV
      clear hV
      by_cases j0 : j = 0
      · subst j0
        have c0 := HV.out.cell 0
        have c1 := HV.out.cell 1
        have c2 := HV.out.cell 2
        have hlv := HV.out.lt
        go_wp2_with fail
        have hV4 := HV.out.alloc (.cells #[.int .i64 ka, .int .i64 na, .string sa] 26)
        have hR4 := World.ownsRow.alloc hR (.cells #[.int .i64 ka, .int .i64 na, .string sa] 26)
        have hB4 := ba hB (.cells #[.int .i64 ka, .int .i64 na, .string sa] 26)
        have hL4 := hL.keep hB4
        refine (Ha.out _ hL4).mono ?_
        rintro e w5 ⟨rfl, hb5⟩
        have HV5 := Lib.hid (hV4.keep hb5)
        have hR5 := row_keep hR4 hb5
        have hB5 := bt hB4 hb5
        have hz5 := hB5.size
        clear hV4 hR4 hB4 hL4 c0 c1 c2 hlv HV hR hB hb5
        go_wp2_with (at_builtin; refine wpList_append_own _ rfl _ _ 48 rfl w.heap.size 9 i0 (.string ⟨#[]⟩) 1 16 Tryd.underlying48 hi hz0 hz1 hz2 rfl (by decide) _ _ _ rfl (World.ownsRow.alloc hR5 _) ⟨w5.heap.size, 0, none⟩ 1 1 [.string A] rfl rfl ?c1_0b ?c2_0b ?c3_0b ?c4_0b ?c5_0b ?_)
        case c1_0b =>
          intro j u hj
          match j, hj with
          | 0, hj => simp at hj; subst hj; simp [Addr.add]
        case c2_0b => intro u hu; simp at hu; subst hu; rfl
        case c3_0b => unfold maxLen; simp <;> omega
        case c4_0b => simp <;> omega
        case c5_0b => simp; omega
        intro v' w6 hown' hgrow _
        obtain ⟨hV6, hB6⟩ := row_next hR5 HV5.out (by decide) _ hB5 hz5 hgrow
        clear hgrow hR5 HV5 hB5
        go_wp2_with fail
        go_roundw
        case rel => exact ⟨1, by omega, by go_num, hV6, hown', hB6⟩
        case measure => simp [intOf] <;> omega
      · skip
        by_cases j1 : j = 1
        · subst j1
          have c0 := HV.out.cell 3
          have c1 := HV.out.cell 4
          have c2 := HV.out.cell 5
          have hlv := HV.out.lt
          go_wp2_with fail
          have hV4 := HV.out.alloc (.cells #[.int .i64 kb, .int .i64 nb, .string sb] 26)
          have hR4 := World.ownsRow.alloc hR (.cells #[.int .i64 kb, .int .i64 nb, .string sb] 26)
          have hB4 := ba hB (.cells #[.int .i64 kb, .int .i64 nb, .string sb] 26)
          have hL4 := hL.keep hB4
          refine (Hb.out _ hL4).mono ?_
          rintro e w5 ⟨rfl, hb5⟩
          have HV5 := Lib.hid (hV4.keep hb5)
          have hR5 := row_keep hR4 hb5
          have hB5 := bt hB4 hb5
          have hz5 := hB5.size
          clear hV4 hR4 hB4 hL4 c0 c1 c2 hlv HV hR hB hb5
          go_wp2_with (at_builtin; refine wpList_append_own _ rfl _ _ 48 rfl w.heap.size 9 i0 (.string ⟨#[]⟩) 1 16 Tryd.underlying48 hi hz0 hz1 hz2 rfl (by decide) _ _ _ rfl (World.ownsRow.alloc hR5 _) ⟨w5.heap.size, 0, none⟩ 1 1 [.string B] rfl rfl ?c1_1b ?c2_1b ?c3_1b ?c4_1b ?c5_1b ?_)
          case c1_1b =>
            intro j u hj
            match j, hj with
            | 0, hj => simp at hj; subst hj; simp [Addr.add]
          case c2_1b => intro u hu; simp at hu; subst hu; rfl
          case c3_1b => unfold maxLen; simp <;> omega
          case c4_1b => simp <;> omega
          case c5_1b => simp; omega
          intro v' w6 hown' hgrow _
          obtain ⟨hV6, hB6⟩ := row_next hR5 HV5.out (by decide) _ hB5 hz5 hgrow
          clear hgrow hR5 HV5 hB5
          go_wp2_with fail
          go_roundw
          case rel => exact ⟨2, by omega, by go_num, hV6, hown', hB6⟩
          case measure => simp [intOf] <;> omega
        · skip
          obtain rfl : j = 2 := by omega
          obtain ⟨g, cap, rfl, hcap, hg⟩ := row_form hR
          have hJ := fun (xs : List ByteArray) (hx : xs = [Z, ky, A, B].take (2 + 2)) => Tryd.strings_Join g 0 cap xs ⟨#[32]⟩ wr (by rw [hx]; exact row_join hR) hg (by rw [hx]; simp) (by rw [hx]; exact hcap) (by rw [hx]; exact Hlen.out)
          have hJ2 := hJ _ rfl
          have HJ := Lib.hid hJ2
          clear hJ hJ2 HV hR hg hcap Hlen
          go_wp2_with fail
          refine HJ.out.mono ?_
          rintro e w5 ⟨rfl, hb5⟩
          have hB5 := hB.trans (hb5.mono hB.size)
          go_wp2_with fail
          go_ret
          exact ⟨rfl, hB5⟩

theorem wordL_len (K : Int) : (⟨(wordL K).toArray⟩ : ByteArray).size ≤ 3 := by
  unfold wordL
  repeat' split
  all_goals decide
theorem size_of (l : List UInt8) : (⟨l.toArray⟩ : ByteArray).size = l.length := by simp [ByteArray.size]
/-- deed.Line of any good operation. -/
theorem line_any (K ka na kb nb : Int) (ky sa sb : ByteArray) (w : World) (hk : ky.size ≤ 20) (ga : GoodW ka na sa.data.toList) (gb : GoodW kb nb sb.data.toList) (h0 : -9223372036854775808 ≤ na ∧ na ≤ 9223372036854775807) (h1 : -9223372036854775808 ≤ nb ∧ nb ≤ 9223372036854775807) (hK : K = 1 ∨ K = 2 ∨ K = 3 ∨ K = 4) (hL : LaidV w) :
    Calls Tryd.prog 17 #[opV K ky ka na sa kb nb sb] w fun e w' => e = .returned (.string ⟨(lineL K ky.data.toList (textV ka na sa.data.toList) (textV kb nb sb.data.toList)).toArray⟩) ∧ Below w.heap.size w w' := by
  have hA : (⟨(textV ka na sa.data.toList).toArray⟩ : ByteArray).size ≤ 200 := by rw [size_of]; exact textV_len ga h0.1 h0.2
  have hB : (⟨(textV kb nb sb.data.toList).toArray⟩ : ByteArray).size ≤ 200 := by rw [size_of]; exact textV_len gb h1.1 h1.2
  have Ha := fun (W : World) (h : LaidV W) => text_any ka na sa W ga h0.1 h0.2 h
  have Hb := fun (W : World) (h : LaidV W) => text_any kb nb sb W gb h1.1 h1.2 h
  rcases hK with rfl | rfl | rfl | rfl
  · have := line1 1 ka na kb nb ky sa sb _ _ _ w (wordL_len 1) hk hA hB hL (fun W => word_any 1 W) (fun W => told_any 1 W) Ha Hb
    refine this.mono ?_
    rintro e w' ⟨rfl, hb⟩
    exact ⟨by simp [lineL, argsL], hb⟩
  · have := line0 2 ka na kb nb ky sa sb _ _ _ w (wordL_len 2) hk hA hB hL (fun W => word_any 2 W) (fun W => told_any 2 W) Ha Hb
    refine this.mono ?_
    rintro e w' ⟨rfl, hb⟩
    exact ⟨by simp [lineL, argsL], hb⟩
  · have := line1 3 ka na kb nb ky sa sb _ _ _ w (wordL_len 3) hk hA hB hL (fun W => word_any 3 W) (fun W => told_any 3 W) Ha Hb
    refine this.mono ?_
    rintro e w' ⟨rfl, hb⟩
    exact ⟨by simp [lineL, argsL], hb⟩
  · have := line2 4 ka na kb nb ky sa sb _ _ _ w (wordL_len 4) hk hA hB hL (fun W => word_any 4 W) (fun W => told_any 4 W) Ha Hb
    refine this.mono ?_
    rintro e w' ⟨rfl, hb⟩
    exact ⟨by simp [lineL, argsL], hb⟩
end Go.Proofs.YtmilcgikncecnaaDoor
