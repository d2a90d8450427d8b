/-
  WHAT IS PROVED: slices.Grow of nil, and slices.Concat of two slices of strings: a row of the call's own with both. Conditions: those typed in each theorem.
-/
import Derived.Test.YtccdpbcldpmegaaDoorStrsOwn
import Derived.Lib.AppendZeros
namespace Go.Proofs.YtccdpbcldpmegaaDoor
open Go.RowKit

theorem ownZero {W : World} {base n : Nat} (cs : Array Value) (c : Nat) (hb : base ≤ W.heap.size) (hc : c ≤ maxLen) (hs : cs.size = c) (_hn : n ≤ c) : OwnS base (W.alloc (.cells cs 9)) (some ⟨W.heap.size, 0, none⟩) 0 c [] := by
  unfold OwnS
  exact World.ownsRow_made W cs c hb hc (by rw [hs, Nat.mul_one])
/-- Both, as far as k of them. -/
def partL (a b : List ByteArray) (k : Nat) : List ByteArray := if k = 0 then [] else if k = 1 then a else a ++ b
def partN (n m k : Nat) : Nat := if k = 0 then 0 else if k = 1 then n else n + m
theorem zeroC (z : Value) (n : Nat) : (Builtin.zeroCells #[z] n).size = n := by simp [Builtin.zeroCells]

set_option maxHeartbeats 2000000 in
set_option maxRecDepth 100000 in
theorem growL_any (n : Nat) (w : World) (hn : n ≤ 1000000) :
    Calls Tryd.prog 42 #[.slice none 0 0, .int .i64 n] w fun e w' => (∃ (A : Option Addr) (c : Nat), e = .returned (.slice A 0 c) ∧ OwnS w.heap.size w' A 0 c []) ∧ Below w.heap.size w w' := by
  obtain ⟨i0, hi0, hz0, hz1, hz2⟩ := info_parts str_info
  have h1 : ¬ ((n : Int) < 0) := by omega
  have h2 : wrap64 (n : Int) = (n : Int) := by unfold wrap64; omega
  by_cases h0 : n = 0
  · subst h0
    go_enter Tryd.func42, Tryd.ntmps42
    go_wp2_with fail
    go_ret
    exact ⟨⟨none, 0, rfl, OwnS.nil _ _⟩, Below.refl _ _⟩
  · have h4 : (0 : Int) < (n : Int) := by omega
    have hrz : ∀ ty, (Builtin.append_ #[22, 3] ty #[.slice none 0 0, .int .i64 n]).run Tryd.prog w = _ := fun ty => Lib.run_append_nil_zeros w 22 3 ty 9 i0 (.string ⟨#[]⟩) .i64 .i64 Tryd.underlying22 Tryd.underlying3 hi0 hz0 n (by omega) (by omega) (by omega) (by rw [hz2]; omega)
    have hG1 := grownCap_ge w n 0 9
    have hG2 := grownCap_le_maxLen w n 0 9 (by unfold maxLen; omega)
    have HG3 := Lib.hid hG2
    unfold maxLen at hG2
    generalize grownCap w n 0 9 = G at hrz hG1 hG2 HG3
    have HO : Hid (OwnS w.heap.size (w.drew.alloc (.cells (Builtin.zeroCells (Value.string ⟨#[]⟩).cells n ++ Builtin.zeroCells (Value.string ⟨#[]⟩).cells (G - n)) 9)) (some ⟨w.heap.size, 0, none⟩) 0 G []) :=
      ownZero (W := w.drew) (base := w.heap.size) (n := n) _ G (Nat.le_refl _) HG3.out (by
        show (Builtin.zeroCells #[Value.string ⟨#[]⟩] n ++ Builtin.zeroCells #[Value.string ⟨#[]⟩] (G - n)).size = G
        rw [Array.size_append, zeroC, zeroC]; omega) hG1
    have HB : Hid (Below w.heap.size w (w.drew.alloc (.cells (Builtin.zeroCells (Value.string ⟨#[]⟩).cells n ++ Builtin.zeroCells (Value.string ⟨#[]⟩).cells (G - n)) 9))) := ((Below.refl w.heap.size w).drew).alloc (Nat.le_refl _) _
    generalize w.drew.alloc (.cells (Builtin.zeroCells (Value.string ⟨#[]⟩).cells n ++ Builtin.zeroCells (Value.string ⟨#[]⟩).cells (G - n)) 9) = w9 at hrz HO HB
    have j0 : (0 : Int) ≤ (G : Int) := by omega
    go_enter Tryd.func42, Tryd.ntmps42
    go_wp2_with (at_builtin; refine Lib.wpList_append_run _ rfl _ _ _ _ rfl _ _ rfl rfl _ _ (hrz _) ?_)
    go_ret
    exact ⟨⟨_, _, rfl, HO.out⟩, HB.out⟩

set_option maxHeartbeats 2000000 in
set_option maxRecDepth 100000 in
theorem concatL_any (g : Nat) (A A2 : Option Addr) (n c m d : Nat) (a b : List ByteArray) (w : World) (hg : g < w.heap.size) (h0 : w.cell? ⟨g, 0, none⟩ = some (.slice A n c)) (h1 : w.cell? ⟨g, 1, none⟩ = some (.slice A2 m d))
    (ha : a.length = n) (hr : RdS w.heap.size w A a) (hb : b.length = m) (hr2 : RdS w.heap.size w A2 b) (hm : n ≤ 1000) (hm2 : m ≤ 1000) :
    Calls Tryd.prog 27 #[.slice (some ⟨g, 0, none⟩) 2 2] w fun e w' => (∃ (A' : Option Addr) (c' : Nat), e = .returned (.slice A' (n + m) c') ∧ OwnS w.heap.size w' A' (n + m) c' (a ++ b)) ∧ Below w.heap.size w w' := by
  obtain ⟨i0, hi0, hz0, hz1, hz2⟩ := info_parts str_info
  have HA := Lib.hid ha
  have HB := Lib.hid hb
  clear ha hb
  have e1 : wrap64 (n : Int) = (n : Int) := by unfold wrap64; omega
  have e2 : wrap64 ((n : Int) + (m : Int)) = (n : Int) + (m : Int) := by unfold wrap64; omega
  have e3 : ¬ ((n : Int) < 0) := by omega
  have e4 : ¬ ((n : Int) + (m : Int) < 0) := by omega
  go_enter Tryd.func27, Tryd.ntmps27
  go_wp2_with fail
  go_loop [3, 11] (fun v i => (i = .int .i64 0 ∧ v = .int .i64 0) ∨ (i = .int .i64 1 ∧ v = .int .i64 n) ∨ (i = .int .i64 2 ∧ v = .int .i64 ((n : Int) + (m : Int)))) (fun _ i => 2 - (intOf i).toNat)
  case atStart => exact Or.inl ⟨rfl, rfl⟩
  case round =>
    rcases hrel with ⟨rfl, rfl⟩ | ⟨rfl, rfl⟩ | ⟨rfl, rfl⟩
    · go_wp2_with fail
      go_round
      case rel => exact Or.inr (Or.inl ⟨rfl, by first | rfl | (congr 1; omega) | simp [e1]⟩)
      case measure => simp [intOf]
    · go_wp2_with fail
      go_round
      case rel => exact Or.inr (Or.inr ⟨rfl, by first | rfl | (congr 1; omega) | simp [e2]⟩)
      case measure => simp [intOf]
    · go_wp2_with fail
      have hnm : (n : Int) + (m : Int) = ((n + m : Nat) : Int) := by omega
      rw [hnm]
      clear hnm
      refine (growL_any (n + m) w (by omega)).mono ?_
      rintro e w1 ⟨⟨A1, c1, rfl, hO1⟩, hb1⟩
      have k0 := (hb1.cell (p := ⟨g, 0, none⟩) hg).trans h0
      have k1 := (hb1.cell (p := ⟨g, 1, none⟩) hg).trans h1
      have hr' := (hr.keep hb1 (Nat.le_refl _))
      have hr2' := (hr2.keep hb1 (Nat.le_refl _))
      go_wp2_with fail
      go_loopw [6, 27] (fun v i wr => ∃ (A3 : Option Addr) (c3 : Nat), Below w.heap.size w wr ∧ ((i = .int .i64 0 ∧ v = .slice A3 0 c3 ∧ OwnS w.heap.size wr A3 0 c3 []) ∨ (i = .int .i64 1 ∧ v = .slice A3 n c3 ∧ OwnS w.heap.size wr A3 n c3 a) ∨ (i = .int .i64 2 ∧ v = .slice A3 (n + m) c3 ∧ OwnS w.heap.size wr A3 (n + m) c3 (a ++ b)))) (fun _ i _ => 2 - (intOf i).toNat)
      case atStart => exact ⟨A1, c1, hb1, Or.inl ⟨rfl, rfl, hO1⟩⟩
      case round =>
        clear hO1 k0 k1 hr' hr2' hb1
        obtain ⟨A3, c3, hB, hrel⟩ := hrel
        have k0 := (hB.cell (p := ⟨g, 0, none⟩) hg).trans h0
        have k1 := (hB.cell (p := ⟨g, 1, none⟩) hg).trans h1
        have hr' := (hr.keep hB (Nat.le_refl _))
        have hr2' := (hr2.keep hB (Nat.le_refl _))
        rcases hrel with ⟨rfl, rfl, hO⟩ | ⟨rfl, rfl, hO⟩ | ⟨rfl, rfl, hO⟩
        · go_wp2_with (at_builtin; refine wpList_apS (l := []) (l2 := a) (B := w.heap.size) rfl _ _ rfl Tryd.underlying22 Tryd.underlying22 hi0 hz0 hz1 hz2 rfl rfl hO hr' HA.out n (Nat.zero_add n) (by omega) hB.size ?_)
          intro A' c' w' q1 q2 q3
          go_wp2_with fail
          go_roundw
          case rel => exact ⟨A', c', hB.trans q2, Or.inr (Or.inl ⟨rfl, rfl, q1⟩)⟩
          case measure => simp [intOf]
        · go_wp2_with (at_builtin; refine wpList_apS (l := a) (l2 := b) (B := w.heap.size) rfl _ _ rfl Tryd.underlying22 Tryd.underlying22 hi0 hz0 hz1 hz2 rfl rfl hO hr2' HB.out (n + m) rfl (by omega) hB.size ?_)
          intro A' c' w' q1 q2 q3
          go_wp2_with fail
          go_roundw
          case rel => exact ⟨A', c', hB.trans q2, Or.inr (Or.inr ⟨rfl, rfl, q1⟩)⟩
          case measure => simp [intOf]
        · go_wp2_with fail
          go_ret
          exact ⟨⟨A3, c3, rfl, hO⟩, hB⟩
end Go.Proofs.YtccdpbcldpmegaaDoor
