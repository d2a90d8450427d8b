/-
  WHAT IS PROVED: plain facts: the steps by which package pack's reader takes a list of writes come to what the chapter says is taken. No program is spoken of. · package pack's reader: Writes: what it answers and leaves, as the chapter says. Conditions: those typed in each theorem.
-/
import Derived.Test.YtahmjiomkaibgaaDoorMRdrVal
namespace Go.Proofs.YtahmjiomkaibgaaDoor

/-- So many writes, one behind the other. -/
noncomputable def repM : Nat → Rest → List Wr × Rest
  | 0, st => ([], st)
  | n + 1, st => match (wrOf st).2 with
    | none => ([], none)
    | some b => ((wrOf st).1 :: (repM n (some b)).1, (repM n (some b)).2)
theorem repM_none : ∀ n, repM n none = ([], none)
  | 0 => rfl
  | _ + 1 => rfl
theorem repM_stop {n : Nat} {st : Rest} (h : (wrOf st).2 = none) : repM (n + 1) st = ([], none) := by
  unfold repM
  rw [h]
theorem repM_more {n : Nat} {st : Rest} {b : List UInt8} (h : (wrOf st).2 = some b) : repM (n + 1) st = ((wrOf st).1 :: (repM n (some b)).1, (repM n (some b)).2) := by
  conv => lhs; unfold repM
  rw [h]
theorem posWs_up (l : List UInt8) (most : Nat) : ∀ j, posWs l most 0 ≤ posWs l most j
  | 0 => Nat.le_refl _
  | j + 1 => Nat.le_trans (posWs_up l most j) (by rw [posWs_succ]; omega)
theorem wrOf_at (l : List UInt8) (most j : Nat) : wrOf (some (l.drop (posWs l most j))) = if (nthWs l most j).2 = 0 then (wrNo, none) else ((nthWs l most j).1, some (l.drop (posWs l most (j + 1)))) := by
  rw [posWs_succ, ← List.drop_drop]
  rfl
theorem rep_at (l : List UInt8) (most : Nat) : ∀ (r j : Nat),
    ((∀ i, j ≤ i → i < j + r → (nthWs l most i).2 ≠ 0) → listWs l most j ++ (repM r (some (l.drop (posWs l most j)))).1 = listWs l most (j + r) ∧ (repM r (some (l.drop (posWs l most j)))).2 = some (l.drop (posWs l most (j + r)))) ∧
    ((∃ i, j ≤ i ∧ i < j + r ∧ (nthWs l most i).2 = 0) → (repM r (some (l.drop (posWs l most j)))).2 = none)
  | 0, j => ⟨fun _ => ⟨List.append_nil _, rfl⟩, fun ⟨i, h1, h2, _⟩ => by omega⟩
  | r + 1, j => by
    have hw := wrOf_at l most j
    have ih := rep_at l most r (j + 1)
    by_cases h0 : (nthWs l most j).2 = 0
    · rw [if_pos h0] at hw
      refine ⟨fun h => absurd h0 (h j (Nat.le_refl _) (by omega)), fun _ => ?_⟩
      rw [repM_stop (by rw [hw])]
    · rw [if_neg h0] at hw
      have hm := repM_more (n := r) (st := some (l.drop (posWs l most j))) (b := l.drop (posWs l most (j + 1))) (by rw [hw])
      rw [hm, hw]
      refine ⟨fun h => ?_, fun ⟨i, h1, h2, h3⟩ => ?_⟩
      · obtain ⟨e1, e2⟩ := ih.1 (fun i h1 h2 => h i (by omega) (by omega))
        rw [show j + (r + 1) = j + 1 + r by omega]
        refine ⟨?_, e2⟩
        rw [← e1]
        show _ = listWs l most j ++ [(nthWs l most j).1] ++ _
        rw [List.append_assoc]
        rfl
      · have hij : i ≠ j := by
          rintro rfl
          exact h0 h3
        exact ih.2 ⟨i, by omega, by omega, h3⟩
/-- What a reader takes of a list, step by step. -/
noncomputable def wrsM (st : Rest) (most : Nat) : List Wr × Rest := (soundM [] (repM (numOf st most).1 (numOf st most).2).2 (repM (numOf st most).1 (numOf st most).2).1, (repM (numOf st most).1 (numOf st most).2).2)
theorem wrs_is (st : Rest) (most : Nat) : wrsM st most = wrsOf st most := by
  cases st with
  | none => rfl
  | some b =>
    have hno : ¬ stdWs b most → wrsOf (some b) most = ([], none) := fun h => by
      unfold wrsOf
      dsimp only
      rw [takeWrs_no h]
      rfl
    have e0 : numOf (some b) most = if (takeNum b most).2 = 0 then (0, none) else ((takeNum b most).1, some (b.drop (posWs b most 0))) := rfl
    unfold wrsM
    by_cases h0 : (takeNum b most).2 = 0
    · rw [if_pos h0] at e0
      rw [e0, hno (fun h => h.1 h0)]
      rfl
    rw [if_neg h0] at e0
    rw [e0]
    dsimp only
    have hr := rep_at b most (takeNum b most).1 0
    rw [Nat.zero_add] at hr
    by_cases hs : stdWs b most
    · obtain ⟨e1, e2⟩ := hr.1 (fun i _ h2 => hs.2 i h2)
      have e3 : (repM (takeNum b most).1 (some (b.drop (posWs b most 0)))).1 = listWs b most (takeNum b most).1 := e1
      have hpos : ¬ posWs b most (takeNum b most).1 = 0 := by
        have h1 := posWs_up b most (takeNum b most).1
        have h2 : posWs b most 0 = (takeNum b most).2 := rfl
        omega
      rw [e2, e3]
      unfold wrsOf
      dsimp only
      rw [takeWrs_yes hs]
      dsimp only
      rw [if_neg hpos]
      rfl
    · have hx : ∃ i, 0 ≤ i ∧ i < (takeNum b most).1 ∧ (nthWs b most i).2 = 0 := by
        apply Classical.byContradiction
        intro hn
        exact hs ⟨h0, fun j hj hz => hn ⟨j, Nat.zero_le _, hj, hz⟩⟩
      rw [hr.2 hx, hno hs]
      rfl
end Go.Proofs.YtahmjiomkaibgaaDoor

namespace Go.Proofs.YtahmjiomkaibgaaDoor
open Go.RowKit

theorem grown_then {w a b : World} {row : Option Nat} (h : w.grownBy a row) (k : Below w.heap.size a b) : w.grownBy b row :=
  ⟨k.os.trans h.os, k.tape.trans h.tape, k.output.trans h.output, Nat.le_trans h.size k.size, fun i hi hr => (k.block i hi).trans (h.block i hi hr)⟩
theorem RdrP.belowB {S : Addr} {B : Nat} {W W' : World} {g : Nat} {st : Rest} (h : RdrP S W g st) (hb : Below B W W') (hg : g < B) : RdrP S W' g st := by
  cases st with
  | none => obtain ⟨e, he, hk⟩ := h; exact ⟨e, he, (hb.block g hg).trans hk⟩
  | some b => obtain ⟨hl, s, hs, hk⟩ := h; exact ⟨hl, s, hs, (hb.block g hg).trans hk⟩
theorem OwnW.keepG {base : Nat} {W W' : World} {A : Option Addr} {n c : Nat} {l : List Wr} {g : Nat} (h : OwnW base W A n c l) (hg : W.grownBy W' (some g)) (hlt : g < base) : OwnW base W' A n c l := by
  refine World.ownsRow.kept h hg ?_
  cases A with
  | none => simp [Value.ownBlock]
  | some a =>
    have := World.ownsRow.lt h a.block rfl
    right
    intro e
    simp only [Value.ownBlock, Option.some.injEq] at e
    omega

set_option maxRecDepth 100000 in
theorem soundL_any (S : Addr) (g : Nat) (st : Rest) (A : Option Addr) (k c : Nat) (w : World) (hR : RdrP S w g st) :
    Calls Tryd.prog 57 #[.pointer (some ⟨g, 0, none⟩), .slice A k c] w fun e w' => e = .returned (soundM (.slice none 0 0) st (.slice A k c)) ∧ w' = w := by
  cases st with
  | none =>
    obtain ⟨e1, he1, hb⟩ := hR
    obtain ⟨t1, v1, rfl⟩ := errP_nil he1
    have c1 := hb.cell 1
    go_enter Tryd.func57, Tryd.ntmps57
    go_wp2_with fail
    go_ret
    exact ⟨rfl, rfl⟩
  | some b =>
    obtain ⟨hl, s, hs, hb⟩ := hR
    have c1 := hb.cell 1
    go_enter Tryd.func57, Tryd.ntmps57
    go_wp2_with fail
    go_ret
    exact ⟨rfl, rfl⟩

set_option maxRecDepth 100000 in
set_option maxHeartbeats 2000000 in
theorem rWrites_all (S : Addr) (g : Nat) (st : Rest) (most : Nat) (w : World) (hL : LaidP S w) (hR : RdrP S w g st) (hm : most ≤ 1000) :
    Calls Tryd.prog 26 #[.pointer (some ⟨g, 0, none⟩), .int .i64 most] w fun e w' => (∃ (A : Option Addr) (n c : Nat), e = .returned (.slice A n c) ∧ (wrsOf st most).1.length = n ∧ RdW w'.heap.size w' A (wrsOf st most).1 ∧ (∀ a, A = some a → w.heap.size ≤ a.block) ∧ ((wrsOf st most).2 = none → A = none ∧ n = 0 ∧ c = 0)) ∧ RdrP S w' g (wrsOf st most).2 ∧ w.grownBy w' (some g) := by
  obtain ⟨i0, hi0, hz0, hz1, hz2⟩ := info_parts wr_info
  rw [← wrs_is]
  unfold wrsM
  have hlt := hR.lt
  have HL := Lib.hid (fun W' (hg : w.grownBy W' (some g)) => hL.grown hR hg)
  have hC := count_any S g st most w hL hR (by omega)
  have hn := (numOf_lt st most).1
  generalize numOf st most = p at hC hn ⊢
  obtain ⟨n, st1⟩ := p
  dsimp only at hC hn ⊢
  clear hL hR
  go_enter Tryd.func26, Tryd.ntmps26
  go_wp2_with fail
  refine hC.mono ?_
  rintro e w1 ⟨rfl, hR1, hg1⟩
  go_wp2_with fail
  go_loopw [5, 6] (fun t u wr => ∃ (r : Nat) (acc : List Wr) (A : Option Addr) (k c : Nat) (sj : Rest), t = .slice A k c ∧ u = .int .i64 r ∧ k + r ≤ 1000 ∧ RdrP S wr g sj ∧ OwnW w.heap.size wr A k c acc ∧ w.grownBy wr (some g) ∧ Hid (soundM [] (repM n st1).2 (repM n st1).1 = soundM [] (repM r sj).2 (acc ++ (repM r sj).1) ∧ (repM n st1).2 = (repM r sj).2)) (fun _ u _ => (intOf u).toNat)
  case atStart => exact ⟨n, [], none, 0, 0, st1, rfl, rfl, by omega, hR1, OwnW.nil _ _, hg1, rfl, rfl⟩
  case round =>
    clear hR1 hg1
    obtain ⟨r, acc, A, k, c, sj, rfl, rfl, hk, hR, hO, hG, hE⟩ := hrel
    have hex : (r = 0 ∨ sj = none) ∨ ∃ r' b, r = r' + 1 ∧ sj = some b := by
      cases r with
      | zero => exact .inl (.inl rfl)
      | succ r' =>
        cases sj with
        | none => exact .inl (.inr rfl)
        | some b => exact .inr ⟨r', b, rfl, rfl⟩
    rcases hex with hex | ⟨r', b, rfl, rfl⟩
    · have hfin : Hid (soundM [] (repM n st1).2 (repM n st1).1 = soundM [] sj acc ∧ (repM n st1).2 = sj) := by
        have h := hE.out
        rcases hex with rfl | rfl
        · rw [show repM 0 sj = ([], sj) from rfl, List.append_nil] at h
          exact h
        · rw [repM_none] at h
          exact h
      have hdone : (r : Int) = 0 ∨ (0 < (r : Int) ∧ ∃ e t v, e = Value.iface t v ∧ wr.cell? ⟨g, 1, none⟩ = some e) := by
        rcases hex with rfl | rfl
        · exact .inl rfl
        · obtain ⟨e1, he1, hb⟩ := hR
          obtain ⟨t1, v1, rfl⟩ := errP_nil he1
          by_cases h0 : r = 0
          · subst h0
            exact .inl rfl
          · exact .inr ⟨by omega, _, _, _, rfl, hb.cell 1⟩
      clear hE hex
      rcases hdone with h0 | ⟨h0, e, t1, v1, rfl, c1⟩
      all_goals
        go_wp2_with fail
        refine (soundL_any S g sj A k c wr hR).mono ?_
        rintro e w2 ⟨rfl, rfl⟩
        go_wp2_with fail
        go_ret
        rw [hfin.out.1, hfin.out.2]
        cases sj with
        | none => exact ⟨⟨none, 0, 0, rfl, rfl, RdW.nil _ _ _, fun a ha => (by cases ha), fun _ => ⟨rfl, rfl, rfl⟩⟩, hR, hG⟩
        | some b =>
          refine ⟨⟨A, k, c, rfl, hO.len, hO.rd, fun a ha => ?_, fun hn => (by cases hn)⟩, hR, hG⟩
          subst ha
          exact (World.ownsRow.lt hO a.block rfl).1
    · obtain ⟨hl, s, hs, hb⟩ := hR
      have c1 := hb.cell 1
      have i1 : (0 : Int) < ((r' + 1 : Nat) : Int) := by omega
      have hW := rWrite_any S g (some b) wr (HL.out wr hG) ⟨hl, s, hs, hb⟩
      have hstep : ∃ x s', wrOf (some b) = (x, s') ∧ Hid (soundM [] (repM n st1).2 (repM n st1).1 = soundM [] (repM r' s').2 ((acc ++ [x]) ++ (repM r' s').1) ∧ (repM n st1).2 = (repM r' s').2) := by
        have h := hE.out
        cases hq : (wrOf (some b)).2 with
        | none =>
          rw [repM_stop hq] at h
          refine ⟨(wrOf (some b)).1, none, by rw [← hq], ?_⟩
          rw [repM_none]
          exact h
        | some b' =>
          rw [repM_more hq] at h
          refine ⟨(wrOf (some b)).1, some b', by rw [← hq], ?_⟩
          rw [List.append_assoc]
          exact h
      obtain ⟨x, s', hx, hE2⟩ := hstep
      rw [hx] at hW
      dsimp only at hW
      clear hE hx
      go_wp2_with fail
      refine hW.mono ?_
      rintro e w2 ⟨rfl, hR2, hg2⟩
      have hO2 := (hO.keepG hg2 hlt).keep (b0 w2 (.cells x.cells 48))
      have hR3 := hR2.below (b0 w2 (.cells x.cells 48))
      have hG3 := (hG.trans hg2).trans (grown_below (b0 w2 (.cells x.cells 48)) (some g))
      have hx : ∀ j v, x.cells[j]? = some v → (w2.alloc (.cells x.cells 48)).cell? ((⟨w2.heap.size, 0, none⟩ : Addr).add j) = some v := by
        intro j v hv
        rw [add_zero_at, (blk_new w2 x.cells 48).cell j]
        exact hv
      have hz := hG3.size
      clear hO hG hb c1 hR2 hg2
      go_wp2_with (at_builtin; refine wpList_apW (base := w.heap.size) (n := k) (l := acc) (xx := x) (by rfl) _ _ (by rfl) Tryd.underlying36 Tryd.underlying36 hi0 hz0 hz1 hz2 (by rfl) (by rfl) hO2 hx (by omega) hz ?_; intro A5 c5 w5 hO5 hb5)
      have hR5 := hR3.belowB hb5 hlt
      have hG5 := grown_then hG3 hb5
      go_roundw
      case rel => exact ⟨r', acc ++ [x], A5, k + 1, c5, s', rfl, by go_num, by omega, hR5, hO5, hG5, hE2⟩
      case measure => simp [intOf]

theorem rWrites_any (S : Addr) (g : Nat) (st : Rest) (most : Nat) (w : World) (hL : LaidP S w) (hR : RdrP S w g st) (hm : most ≤ 1000) :
    Calls Tryd.prog 26 #[.pointer (some ⟨g, 0, none⟩), .int .i64 most] w fun e w' => (∃ (A : Option Addr) (n c : Nat), e = .returned (.slice A n c) ∧ (wrsOf st most).1.length = n ∧ RdW w'.heap.size w' A (wrsOf st most).1 ∧ ∀ a, A = some a → w.heap.size ≤ a.block) ∧ RdrP S w' g (wrsOf st most).2 ∧ w.grownBy w' (some g) :=
  (rWrites_all S g st most w hL hR hm).mono fun _ _ ⟨⟨A, n, c, h1, h2, h3, h4, _⟩, h5, h6⟩ => ⟨⟨A, n, c, h1, h2, h3, h4⟩, h5, h6⟩
end Go.Proofs.YtahmjiomkaibgaaDoor
