/-
  WHAT IS PROVED: bytes.Clone of Go's own text, where package frame calls it; package frame's unseal: what it answers, as the chapter says. Conditions: those typed in each theorem.
-/
import Derived.Test.YtggoinjjdogmaaaDoorFLen
import Derived.Test.YtggoinjjdogmaaaDoorFErrs2
import Derived.BigQuiet
import Derived.Deep.QuietTactic
namespace Go.Proofs.YtggoinjjdogmaaaDoor
open Go.RowKit

theorem below_draws {B : Nat} {a w : World} (h : Below B a w) (n : Nat) : Below B a (w.drewN n) := ⟨h.os, h.tape, h.output, h.size, h.block⟩
theorem OwnB.other {base g : Nat} {W : World} {A : Option Addr} {n c : Nat} {l : List UInt8} (h : OwnB base W A n c l) (hg : g < base) (i : Nat) (v : Value) : OwnB base (W.setCell ⟨g, i, none⟩ v) A n c l := by
  refine World.ownsRow.kept h (row := some g) ⟨rfl, rfl, rfl, by simp, fun k _ hr => Below.heap_setCell W ⟨g, i, none⟩ v k (fun e => hr (by rw [e]))⟩ ?_
  cases A with
  | none => simp [Value.ownBlock]
  | some a =>
    have := World.ownsRow.lt h a.block rfl
    right
    intro e
    simp only [Value.ownBlock, Option.some.injEq] at e
    omega
theorem slice_notnil (ad : Addr) (n c : Nat) (w : World) : (binOp .eql 22 (.slice (some ad) n c) (.slice none 0 0)).run Tryd.prog w = .ok (.bool false) w := by
  first
    | kernel_rfl
    | simp [binOp, go_sem]
    | go_simp
set_option maxRecDepth 100000 in
set_option maxHeartbeats 2000000 in
theorem clone_any {B : Nat} (ad : Addr) (n c : Nat) (l : List UInt8) (w : World) (hn : l.length = n) (hr : RdB B w (some ad) l) (hB : B ≤ w.heap.size) (hm : n ≤ 1000000) :
    Calls Tryd.prog 26 #[.slice (some ad) n c] w fun e w' => (∃ (A' : Option Addr) (c' : Nat), e = .returned (.slice A' n c') ∧ OwnB w.heap.size w' A' n c' l) ∧ Below w.heap.size w w' := by
  obtain ⟨i0, hi0, hz0, hz1, hz2⟩ := info_parts byt_info
  have hlit0 : OwnB w.heap.size (w.alloc (.cells #[] 5)) (some ⟨w.heap.size, 0, none⟩) 0 0 [] := OwnB.lit w #[] [] rfl rfl (Nat.le_refl _) (Nat.zero_le _)
  have hrf := hr.keep (b0 w (.cells #[] 5)) hB
  have HN := Lib.hid hn
  have hnn := slice_notnil ad n c w
  clear hn
  go_enter Tryd.func26, Tryd.ntmps26
  go_wp2_with (at_builtin; refine wpList_apB (base := w.heap.size) (n := 0) (m := n) (l := []) (l2 := l) (by rfl) _ _ (by rfl) Tryd.underlying22 Tryd.underlying22 hi0 hz0 hz1 hz2 (by rfl) (by rfl) hlit0 hrf HN.out n (by omega) (by omega) (by simp) ?_; intro A3 c3 w3 hO3 hb3 hg3; rw [List.nil_append] at hO3; have hB3 := (b0 w (.cells #[] 5)).trans hb3)
  go_ret
  exact ⟨⟨A3, c3, rfl, hO3⟩, hB3⟩

/-- What unseal says is wrong. -/
def ErrU (v : Value) (n : Nat) : Prop := (v = .nilIface ∧ n = 0) ∨ (v = .iface 62 (.int .i64 4) ∧ n = 4)
theorem ErrU.err {v : Value} {n : Nat} (h : ErrU v n) : ErrF v n := by
  rcases h with h | ⟨rfl, rfl⟩
  · exact .inl h
  · exact .inr (.inl rfl)

set_option maxRecDepth 100000 in
set_option maxHeartbeats 4000000 in
theorem unseal_any {B : Nat} (A : Option Addr) (n c : Nat) (y : List UInt8) (w : World) (hL : LaidF w) (hn : y.length = n) (hr : RdB B w A y) (hB : B ≤ w.heap.size) (h9 : 9 ≤ n) (hc : n ≤ c) (hm : n ≤ 1000000) :
    Calls Tryd.prog 22 #[.slice A n c] w fun e w' => (∃ (A' : Option Addr) (c' : Nat) (v : Value), e = .returned (.tuple #[.agg #[.int .u8 ((unsF y).1.toNat : Int), .slice A' (unsF y).2.1.length c'], v]) ∧ OwnB w.heap.size w' A' (unsF y).2.1.length c' (unsF y).2.1 ∧ ErrU v (unsF y).2.2) ∧ Below w.heap.size w w' := by
  have HN := Lib.hid hn
  have gm : (n : Int) ≤ 1000000 := by omega
  obtain ⟨ad, rfl, hbl, _, c1, _, _, _⟩ := five hr (by omega)
  have g1 : (1 : Int) < (n : Int) := by omega
  have q0 : ∀ W : World, (Instr.sliceAt 22 (.slice (some ad) n c) none (some (.int .i64 ((n : Int) - 4))) none).run Tryd.prog W = .ok (.slice (some ad) (n - 4) c) W := fun W => run_cut0 W (some ad) n c (n - 4) _ (by omega) (by omega) hc
  have q1 : ∀ W : World, (Instr.sliceAt 22 (.slice (some ad) n c) (some (.int .i64 ((n : Int) - 4))) none none).run Tryd.prog W = .ok (.slice (cutA (some ad) c (n - 4)) 4 (c - (n - 4))) W := fun W => by
    have h := run_cutI W (some ad) n c (n - 4) ((n : Int) - 4) (by omega) (by omega)
    rwa [show n - (n - 4) = 4 by omega] at h
  have q2 : ∀ W : World, (Instr.sliceAt 22 (.slice (some ad) n c) (some (.int .i64 5)) (some (.int .i64 ((n : Int) - 4))) none).run Tryd.prog W = .ok (.slice (cutA (some ad) c 5) (n - 9) (c - 5)) W := fun W => by
    have h := run_cut2 W (some ad) n c 5 (n - 4) 5 ((n : Int) - 4) rfl (by omega) (by omega) (by omega) hc
    rwa [show n - 4 - 5 = n - 9 by omega] at h
  have hcut : cutA (some ad) c 5 = some (ad.add 5) := by unfold cutA; rw [if_neg (by omega)]; rfl
  rw [hcut] at q2
  have hsub : RdB B w (some (ad.add 5)) ((y.take (n - 4)).drop 5) := by
    have h := (hr.take (n - 4)).cut (p := 5) (c := c) (by rw [List.length_take, HN.out]; omega)
    rwa [hcut] at h
  have hsl : ((y.take (n - 4)).drop 5).length = n - 9 := by rw [List.length_drop, List.length_take, HN.out]; omega
  have FS := Lib.hid (fun W (h : Below w.heap.size w W) => sum_any (some ad) (n - 4) c (y.take (n - 4)) W (hL.keep h) (by rw [List.length_take, HN.out]; omega) ((hr.take (n - 4)).keep h hB) (by omega))
  have FT := Lib.hid (fun W (h : Below w.heap.size w W) => sumAt_any (cutA (some ad) c (n - 4)) (c - (n - 4)) (y.drop (n - 4)) W (by rw [List.length_drop, HN.out]; omega) ((hr.cut (p := n - 4) (c := c) (by rw [HN.out]; exact hc)).keep h hB))
  have HU : Hid (unsF y = if crcL (y.take (n - 4)) = numF (y.drop (n - 4)) 0 then (byteAt y 1, (y.take (n - 4)).drop 5, 0) else (0, [], 4)) := by show _ = _; unfold unsF; rw [HN.out]
  have FC := Lib.hid (fun W (h : Below w.heap.size w W) => clone_any (ad.add 5) (n - 9) (c - 5) _ W hsl (hsub.keep h hB) (Nat.le_trans hB h.size) (by omega))
  generalize unsF y = r at HU ⊢
  generalize crcL (y.take (n - 4)) = s1 at FS HU
  generalize numF (y.drop (n - 4)) 0 = s2 at FT HU
  generalize (y.take (n - 4)).drop 5 = ins at FC HU hsl hsub
  generalize byteAt y 1 = k at c1 HU
  have hB1 := b0 w (.cells #[.int .u8 0, .slice none 0 0] 31)
  have hP := blk_new w #[.int .u8 0, .slice none 0 0] 31
  have c1' : (w.alloc (.cells #[.int .u8 0, .slice none 0 0] 31)).cell? ⟨ad.block, ad.off + 1, none⟩ = some (.int .u8 (k.toNat : Int)) := (hB1.cell (p := ⟨ad.block, ad.off + 1, none⟩) (Nat.lt_of_lt_of_le hbl hB)).trans c1
  have hlt : ad.block < (w.alloc (.cells #[.int .u8 0, .slice none 0 0] 31)).heap.size := Nat.lt_of_lt_of_le (Nat.lt_of_lt_of_le hbl hB) hB1.size
  by_cases hs : s1 = s2
  · have e1 : ((s1 : Int) != (s2 : Int)) = false := by rw [hs]; simp
    have e2 : ((s1 : Int) == (s2 : Int)) = true := by rw [hs]; simp
    have R : Hid (r = (k, ins, 0)) := by show _ = _; rw [HU.out, if_pos hs]
    clear HU hn
    go_enter Tryd.func22, Tryd.ntmps22
    go_wp2_with fail
    go_quiet ((first
      | (go_at_call 11; exact Calls.quiet_of_same ((FS.out _ (below_draws hB1 _)).mono fun _ _ h => ⟨h.1, h.2.symm⟩))
      | (go_at_call 25; exact Calls.quiet_of ((FT.out _ (below_draws hB1 _)).mono fun _ _ h => ⟨h.1, 1, h.2⟩))))
    go_wp2_with fail
    go_region_with ((go_at_call 26; refine (FC.out _ (below_draws hB1 _)).mono ?_; rintro e w7 ⟨⟨A7, c7, rfl, hO7⟩, hb7⟩; have hP7 := Blk.keep (Blk.drew hP _) hb7; have p0 := hP7.cell 0; have p1 := hP7.cell 1; have f0 := hP7.free 0; have f1 := hP7.free 1; have k1 := (Below.cell hb7 (p := ⟨ad.block, ad.off + 1, none⟩) hlt).trans c1'))
    all_goals
      go_wp2_with fail
      have hP8 := (hP7.set 0 (.int .u8 (k.toNat : Int))).set 1 (.slice A7 (n - 9) c7)
      have p2 : ((w7.setCell ⟨w.heap.size, 0, none⟩ (.int .u8 (k.toNat : Int))).setCell ⟨w.heap.size, 1, none⟩ (.slice A7 (n - 9) c7)).cell? ⟨w.heap.size, 0, none⟩ = some (.int .u8 (k.toNat : Int)) := hP8.cell 0
      have p3 : ((w7.setCell ⟨w.heap.size, 0, none⟩ (.int .u8 (k.toNat : Int))).setCell ⟨w.heap.size, 1, none⟩ (.slice A7 (n - 9) c7)).cell? ⟨w.heap.size, 1, none⟩ = some (.slice A7 (n - 9) c7) := hP8.cell 1
      have hO8 := ((hO7.other (g := w.heap.size) (by simp) 0 (.int .u8 (k.toNat : Int))).other (g := w.heap.size) (by simp) 1 (.slice A7 (n - 9) c7)).less (b2 := w.heap.size) (by simp)
      have hB8 : Below w.heap.size w ((w7.setCell ⟨w.heap.size, 0, none⟩ (.int .u8 (k.toNat : Int))).setCell ⟨w.heap.size, 1, none⟩ (.slice A7 (n - 9) c7)) := ((bt (below_draws hB1 _) hb7).setCell (p := ⟨w.heap.size, 0, none⟩) (Nat.le_refl _) _).setCell (p := ⟨w.heap.size, 1, none⟩) (Nat.le_refl _) _
      refine bodyPost_ret (v := .tuple #[.agg #[.int .u8 (k.toNat : Int), .slice A7 (n - 9) c7], .nilIface]) (by simp [results, Tryd.results22, go_sem, p2, p3]) rfl ?_
      rw [R.out]
      simp only
      rw [hsl]
      exact ⟨⟨A7, c7, _, rfl, hO8, .inl ⟨rfl, rfl⟩⟩, hB8⟩
  · have e1 : ((s1 : Int) != (s2 : Int)) = true := by rw [bne_iff_ne]; omega
    have e2 : ((s1 : Int) == (s2 : Int)) = false := by rw [beq_eq_false_iff_ne]; omega
    have e3 : ¬ (s1 : Int) = (s2 : Int) := by omega
    have R : Hid (r = (0, [], 4)) := by show _ = _; rw [HU.out, if_neg hs]
    clear HU hn hs FC hsub
    go_enter Tryd.func22, Tryd.ntmps22
    go_wp2_with fail
    go_quiet ((first
      | (go_at_call 11; exact Calls.quiet_of_same ((FS.out _ (below_draws hB1 _)).mono fun _ _ h => ⟨h.1, h.2.symm⟩))
      | (go_at_call 25; exact Calls.quiet_of ((FT.out _ (below_draws hB1 _)).mono fun _ _ h => ⟨h.1, 1, h.2⟩))))
    rename_i nq _ _
    have hPq := Blk.drew hP nq
    have f0 := hPq.free 0
    have f1 := hPq.free 1
    have p0 := hPq.cell 0
    have p1 := hPq.cell 1
    have hBq := below_draws hB1 nq
    go_wp2_with fail
    have hP8 := (hPq.set 0 (.int .u8 0)).set 1 (.slice none 0 0)
    have hB8 := (hBq.setCell (p := ⟨w.heap.size, 0, none⟩) (Nat.le_refl _) (.int .u8 0)).setCell (p := ⟨w.heap.size, 1, none⟩) (Nat.le_refl _) (.slice none 0 0)
    generalize (((w.alloc (.cells #[.int .u8 0, .slice none 0 0] 31)).drewN nq).setCell ⟨w.heap.size, 0, none⟩ (.int .u8 0)).setCell ⟨w.heap.size, 1, none⟩ (.slice none 0 0) = W8 at hP8 hB8 ⊢
    have p2 : W8.cell? ⟨w.heap.size, 0, none⟩ = some (.int .u8 0) := hP8.cell 0
    have p3 : W8.cell? ⟨w.heap.size, 1, none⟩ = some (.slice none 0 0) := hP8.cell 1
    refine bodyPost_ret (v := .tuple #[.agg #[.int .u8 0, .slice none 0 0], .iface 62 (.int .i64 4)]) (by simp [results, Tryd.results22, go_sem, p2, p3]) rfl ?_
    rw [R.out]
    exact ⟨⟨none, 0, _, rfl, OwnB.nil _ _, .inr ⟨rfl, rfl⟩⟩, hB8⟩
end Go.Proofs.YtggoinjjdogmaaaDoor
