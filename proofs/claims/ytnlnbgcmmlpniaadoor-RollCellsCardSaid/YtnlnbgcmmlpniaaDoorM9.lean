/-
  WHAT IS PROVED: the document's answers for lasts (spinneyref07.GoodLasts, Lasts, TakeLasts). Conditions: those typed in each theorem. · plain facts: what package roll's calls take of a reader is what the document takes of its bytes; what is put is taken again. Conditions: those typed in each theorem. · the document's taking of reaches, cells, lines from bytes (spinneyref07.TakeReach, TakeCells, TakeLines). Conditions: those typed in each theorem.
-/
import Derived.Test.YtnlnbgcmmlpniaaDoorRLasts2
import Derived.Test.YtnlnbgcmmlpniaaDoorRRefPut
import Derived.Test.YtnlnbgcmmlpniaaDoorM3
import Derived.Test.YtnlnbgcmmlpniaaDoorRTake
import Derived.Test.YtnlnbgcmmlpniaaDoorRRefGood
import Derived.Test.YtnlnbgcmmlpniaaDoorM7
import Derived.Test.YtnlnbgcmmlpniaaDoorM4
namespace Go.Proofs.YtnlnbgcmmlpniaaDoor
open Go.RowKit
attribute [local go_sem ↓] Go.wp_at_zero Go.wp_at_succ

theorem la_get (a0 a1 a2 a3 a4 a5 a6 a7 a8 a9 a10 a11 : Int) {j : Nat} (hj : j < 12) : ∃ x, (laL a0 a1 a2 a3 a4 a5 a6 a7 a8 a9 a10 a11)[j]? = some x := ⟨_, List.getElem?_eq_getElem (by simpa using hj)⟩
theorem la_cell {W : World} {b j : Nat} {a0 a1 a2 a3 a4 a5 a6 a7 a8 a9 a10 a11 x : Int} {t : TypeId} (h : Blk W b (laI a0 a1 a2 a3 a4 a5 a6 a7 a8 a9 a10 a11) t) (hx : (laL a0 a1 a2 a3 a4 a5 a6 a7 a8 a9 a10 a11)[j]? = some x) : W.cell? ⟨b, j, none⟩ = some (.int .i64 x) := by
  rw [h.cell j]
  have hm := map_getR (f := Value.int .i64) hx
  have e : ((laL a0 a1 a2 a3 a4 a5 a6 a7 a8 a9 a10 a11).map (Value.int .i64)).toArray = laI a0 a1 a2 a3 a4 a5 a6 a7 a8 a9 a10 a11 := rfl
  rw [← e]
  simpa using hm

/-! TakeLasts. -/
def uZ (u : Nat → Nat) (j i : Nat) : Int := if i < j then (u i : Int) else 0
abbrev rowU (u : Nat → Nat) (j : Nat) : Array Value := laI (uZ u j 0) (uZ u j 1) (uZ u j 2) (uZ u j 3) (uZ u j 4) (uZ u j 5) (uZ u j 6) (uZ u j 7) (uZ u j 8) (uZ u j 9) (uZ u j 10) (uZ u j 11)
theorem rowU_set (u : Nat → Nat) {j : Nat} (hj : j < 12) : (rowU u j).setIfInBounds j (.int .i64 (u j : Int)) = rowU u (j + 1) := by
  have h : ∀ i, uZ u (j + 1) i = if i = j then (u j : Int) else uZ u j i := by
    intro i
    unfold uZ
    by_cases e : i = j
    · rw [if_pos e, if_pos (by omega), e]
    · rw [if_neg e]
      by_cases hi : i < j
      · rw [if_pos hi, if_pos (by omega)]
      · rw [if_neg hi, if_neg (by omega)]
  have hc : j = 0 ∨ j = 1 ∨ j = 2 ∨ j = 3 ∨ j = 4 ∨ j = 5 ∨ j = 6 ∨ j = 7 ∨ j = 8 ∨ j = 9 ∨ j = 10 ∨ j = 11 := by omega
  unfold rowU
  simp only [h]
  rcases hc with rfl | rfl | rfl | rfl | rfl | rfl | rfl | rfl | rfl | rfl | rfl | rfl <;> rfl
theorem rowU_at (u : Nat → Nat) (i : Nat) {j : Nat} (hj : j < 12) : (rowU u i)[j]? = some (.int .i64 (uZ u i j)) := by
  have hc : j = 0 ∨ j = 1 ∨ j = 2 ∨ j = 3 ∨ j = 4 ∨ j = 5 ∨ j = 6 ∨ j = 7 ∨ j = 8 ∨ j = 9 ∨ j = 10 ∨ j = 11 := by omega
  rcases hc with rfl | rfl | rfl | rfl | rfl | rfl | rfl | rfl | rfl | rfl | rfl | rfl <;> rfl
theorem rowU_all (u : Nat → Nat) : rowU u 12 = laI (u 0 : Int) (u 1 : Int) (u 2 : Int) (u 3 : Int) (u 4 : Int) (u 5 : Int) (u 6 : Int) (u 7 : Int) (u 8 : Int) (u 9 : Int) (u 10 : Int) (u 11 : Int) := rfl
theorem takeLa_list (b : List UInt8) : (listG takeLa1 b 0 12).map Int.ofNat = laL ((nthG takeLa1 b 0 0).1 : Int) ((nthG takeLa1 b 0 1).1 : Int) ((nthG takeLa1 b 0 2).1 : Int) ((nthG takeLa1 b 0 3).1 : Int) ((nthG takeLa1 b 0 4).1 : Int) ((nthG takeLa1 b 0 5).1 : Int) ((nthG takeLa1 b 0 6).1 : Int) ((nthG takeLa1 b 0 7).1 : Int) ((nthG takeLa1 b 0 8).1 : Int) ((nthG takeLa1 b 0 9).1 : Int) ((nthG takeLa1 b 0 10).1 : Int) ((nthG takeLa1 b 0 11).1 : Int) := rfl
theorem takeLaB_no {b : List UInt8} (h : (∃ j, j < 12 ∧ (nthG takeLa1 b 0 j).2 = 0) ∨ (nthG takeLa1 b 0 0).1 ≠ 0) : takeLaB b = (laL 0 0 0 0 0 0 0 0 0 0 0 0, 0) := by
  unfold takeLaB
  rw [if_neg]
  · rfl
  · rintro ⟨h1, h2⟩
    rcases h with ⟨j, hj, h⟩ | h
    · exact h1 j hj h
    · exact h h2
theorem takeLaB_yes {b : List UInt8} (h : StdG takeLa1 b 0 12) (h2 : (nthG takeLa1 b 0 0).1 = 0) : takeLaB b = ((listG takeLa1 b 0 12).map Int.ofNat, posG takeLa1 b 0 12) := if_pos ⟨h, h2⟩
theorem std_nextL {α : Type} {f : List UInt8 → α × Nat} {l : List UInt8} {k j : Nat} (hA : StdG f l k j) (h : (nthG f l k j).2 ≠ 0) : StdG f l k (j + 1) := by
  intro i hi
  by_cases e : i = j
  · rw [e]; exact h
  · exact hA i (by omega)
def TakeLaP (r : List Int × Nat) (w : World) (e : Ending) (w' : World) : Prop := e = .returned (.tuple #[.agg (lastsI r.1), .int .i64 (r.2 : Nat)]) ∧ Below w.heap.size w w'
end Go.Proofs.YtnlnbgcmmlpniaaDoor

namespace Go.Proofs.YtnlnbgcmmlpniaaDoor
open Go.RowKit

/-- The number that a call answers beside what it took. -/
def codeK (k : Nat) : Int := if k = 0 then 2 else 0
theorem taken_of {α : Type} {S : Addr} {g : Nat} {t : TypeId} {z : Nat} {cells : α → Array Value} {f : List UInt8 → α × Nat} {good : List α → Bool} {b : List UInt8} {most : Nat} {w : World} {e : Ending} {w' : World} (h : TakenX S g t z cells (outG f good (some b) most) w e w') :
    (∃ (A : Option Addr) (n c : Nat), e = .returned (.tuple #[.slice A n c, .int .i64 (codeK (takeG f good b most).2)]) ∧ OwnX t z w.heap.size w' A n c ((takeG f good b most).1.map cells)) ∧ (∃ st, RdrP S w' g st) ∧ w.grownBy w' (some g) := by
  obtain ⟨h, hg⟩ := h
  unfold outG at h
  dsimp only at h
  by_cases h0 : (takeG f good b most).2 = 0
  · rw [if_pos h0] at h
    obtain ⟨he, hst⟩ := h
    have e1 : (takeG f good b most).1 = [] := by
      rcases takeG_or f good b most with h1 | h1
      · rw [h1]
      · exact absurd h0 h1.1
    rw [e1, h0]
    exact ⟨⟨none, 0, 0, he, OwnX.nil _ _ _ _⟩, hst, hg⟩
  · rw [if_neg h0] at h
    obtain ⟨⟨A, n, c, he, hO⟩, hR⟩ := h
    have ec : codeK (takeG f good b most).2 = 0 := if_neg h0
    rw [ec]
    exact ⟨⟨A, n, c, he, hO⟩, ⟨_, hR⟩, hg⟩
/-- Lasts: step by step, and as the document has them. -/
theorem stN_at (b : List UInt8) : ∀ j, (StdG takeLa1 b 0 j → stN (some b) j = some (b.drop (posG takeLa1 b 0 j)) ∧ ∀ i, i < j → vN (some b) i = (nthG takeLa1 b 0 i).1) ∧ ((∃ i, i < j ∧ (nthG takeLa1 b 0 i).2 = 0) → stN (some b) j = none)
  | 0 => ⟨fun _ => ⟨by show some b = some (b.drop 0); simp, fun i hi => by omega⟩, fun ⟨i, hi, _⟩ => by omega⟩
  | j + 1 => by
    obtain ⟨h1, h2⟩ := stN_at b j
    have hs : stN (some b) (j + 1) = (numOf (stN (some b) j) 40).2 := rfl
    have hv : vN (some b) j = (numOf (stN (some b) j) 40).1 := rfl
    by_cases hA : StdG takeLa1 b 0 j
    · obtain ⟨e1, e2⟩ := h1 hA
      have hn : numOf (some (b.drop (posG takeLa1 b 0 j))) 40 = if (nthG takeLa1 b 0 j).2 = 0 then (0, none) else ((nthG takeLa1 b 0 j).1, some ((b.drop (posG takeLa1 b 0 j)).drop (nthG takeLa1 b 0 j).2)) := rfl
      rw [e1, hn] at hs hv
      by_cases h0 : (nthG takeLa1 b 0 j).2 = 0
      · rw [if_pos h0] at hs
        exact ⟨fun hS => absurd h0 (hS j (by omega)), fun _ => hs⟩
      · rw [if_neg h0, List.drop_drop] at hs
        rw [if_neg h0] at hv
        refine ⟨fun _ => ⟨by rw [hs, posG_succ], fun i hi => ?_⟩, fun ⟨i, hi, hz⟩ => ?_⟩
        · by_cases e : i = j
          · rw [e, hv]
          · exact e2 i (by omega)
        · by_cases e : i = j
          · rw [e] at hz
            exact absurd hz h0
          · exact absurd hz (hA i (by omega))
    · have hx : ∃ i, i < j ∧ (nthG takeLa1 b 0 i).2 = 0 := by
        apply Classical.byContradiction
        intro hn
        exact hA fun i hi hz => hn ⟨i, hi, hz⟩
      have e0 := h2 hx
      rw [e0] at hs
      refine ⟨fun hS => absurd (fun i hi => hS i (by omega)) hA, fun _ => hs⟩
theorem vN_le (st : Rest) (i : Nat) : vN st i ≤ 40 := (numOf_lt (stN st i) 40).1
theorem lasts_good (st : Rest) : goodLa (lastsOf st) = decide (vN st 0 = 0) := by
  have h : (lastsOf st) = (List.range 12).map fun i => ((vN st i : Nat) : Int) := rfl
  unfold goodLa
  have h1 : ((lastsOf st).all fun x => decide (0 ≤ x ∧ x ≤ 40)) = true := by
    rw [h, List.all_eq_true]
    intro x hx
    obtain ⟨i, _, rfl⟩ := List.mem_map.1 hx
    have := vN_le st i
    exact decide_eq_true (by omega)
  rw [h1, Bool.true_and]
  show (some (vZ st 12 0) == some 0) = _
  have e : vZ st 12 0 = ((vN st 0 : Nat) : Int) := rfl
  rw [e, Bool.eq_iff_iff]
  simp
theorem outLa_is (b : List UInt8) : outLa (some b) = if (takeLaB b).2 = 0 then none else some ((takeLaB b).1, b.drop (takeLaB b).2) := by
  obtain ⟨h1, h2⟩ := stN_at b 12
  unfold outLa
  rw [lasts_good]
  by_cases hA : StdG takeLa1 b 0 12
  · obtain ⟨e1, e2⟩ := h1 hA
    rw [e1]
    dsimp only
    by_cases h0 : (nthG takeLa1 b 0 0).1 = 0
    · have hpos : ¬ posG takeLa1 b 0 12 = 0 := by
        have := stdG_low (f := takeLa1) (m := 1) (fun b h => Nat.pos_of_ne_zero h) 12 hA
        omega
      rw [decide_eq_true (by rw [e2 0 (by omega)]; exact h0), if_pos rfl, takeLaB_yes hA h0]
      dsimp only
      rw [if_neg hpos]
      have e3 : lastsOf (some b) = (listG takeLa1 b 0 12).map Int.ofNat := by
        have h : (lastsOf (some b)) = (List.range 12).map fun i => ((vN (some b) i : Nat) : Int) := rfl
        have h' : (listG takeLa1 b 0 12).map Int.ofNat = (List.range 12).map fun i => (((nthG takeLa1 b 0 i).1 : Nat) : Int) := rfl
        rw [h, h']
        refine List.map_congr_left fun i hi => ?_
        rw [e2 i (List.mem_range.1 hi)]
      rw [e3]
    · rw [decide_eq_false (by rw [e2 0 (by omega)]; exact h0), if_neg Bool.false_ne_true, takeLaB_no (.inr h0)]
      exact (if_pos rfl).symm
  · have hx : ∃ i, i < 12 ∧ (nthG takeLa1 b 0 i).2 = 0 := by
      apply Classical.byContradiction
      intro hn
      exact hA fun i hi hz => hn ⟨i, hi, hz⟩
    rw [h2 hx, takeLaB_no (.inl hx)]
    exact (if_pos rfl).symm
theorem takeLa_form (b : List UInt8) : ∃ v0 v1 v2 v3 v4 v5 v6 v7 v8 v9 v10 v11 : Int, (takeLaB b).1 = laL v0 v1 v2 v3 v4 v5 v6 v7 v8 v9 v10 v11 := by
  by_cases h : StdG takeLa1 b 0 12 ∧ (nthG takeLa1 b 0 0).1 = 0
  · rw [takeLaB_yes h.1 h.2]
    exact ⟨_, _, _, _, _, _, _, _, _, _, _, _, takeLa_list b⟩
  · refine ⟨0, 0, 0, 0, 0, 0, 0, 0, 0, 0, 0, 0, ?_⟩
    unfold takeLaB
    rw [if_neg h]
    rfl
theorem takenLa_of {S : Addr} {g : Nat} {b : List UInt8} {w : World} {e : Ending} {w' : World} (h : TakenLa S g (outLa (some b)) w e w') :
    e = .returned (.tuple #[.agg (lastsI (takeLaB b).1), .int .i64 (codeK (takeLaB b).2)]) ∧ (∃ st, RdrP S w' g st) ∧ w.grownBy w' (some g) := by
  obtain ⟨h, hg⟩ := h
  rw [outLa_is] at h
  by_cases h0 : (takeLaB b).2 = 0
  · rw [if_pos h0] at h
    have e1 : (takeLaB b).1 = laL 0 0 0 0 0 0 0 0 0 0 0 0 := by
      by_cases hA : StdG takeLa1 b 0 12 ∧ (nthG takeLa1 b 0 0).1 = 0
      · rw [takeLaB_yes hA.1 hA.2] at h0
        have := stdG_low (f := takeLa1) (m := 1) (fun b h => Nat.pos_of_ne_zero h) 12 hA.1
        dsimp only at h0
        omega
      · unfold takeLaB
        rw [if_neg hA]
        rfl
    rw [e1, h0]
    exact ⟨h.1, h.2, hg⟩
  · rw [if_neg h0] at h
    have ec : codeK (takeLaB b).2 = 0 := if_neg h0
    rw [ec]
    exact ⟨h.1, ⟨_, h.2⟩, hg⟩
/-- What is put is taken again. -/
theorem out_put {α : Type} {f : List UInt8 → α × Nat} {E : α → List UInt8} {good : List α → Bool} {l : List α} {most : Nat} (r : List UInt8) (hn : l.length < 18446744073709551616) (hm : l.length ≤ most) (hg : ∀ x, x ∈ l → PutG f E x) (h0 : ∀ x, x ∈ l → (E x).length ≠ 0) (hgood : good l = true) :
    outG f good (some (numB l.length ++ l.flatMap E ++ r)) most = some (l, r) := by
  unfold outG
  dsimp only
  rw [takeG_put r hn hm hg h0 hgood]
  dsimp only
  rw [if_neg (by rw [List.length_append, numB_len]; omega), List.drop_left]
theorem numOf_put {n : Nat} (r : List UInt8) (h : n ≤ 40) : numOf (some (numB n ++ r)) 40 = (n, some r) := by
  have ht := take_num (n := n) (most := 40) r (by omega) h
  unfold numOf
  dsimp only
  rw [ht]
  dsimp only
  rw [if_neg (by rw [numB_len]; omega), List.drop_left]
theorem outLa_put (n0 n1 n2 n3 n4 n5 n6 n7 n8 n9 n10 n11 : Nat) (r : List UInt8) (hg : goodLa (laL (n0 : Int) (n1 : Int) (n2 : Int) (n3 : Int) (n4 : Int) (n5 : Int) (n6 : Int) (n7 : Int) (n8 : Int) (n9 : Int) (n10 : Int) (n11 : Int)) = true) :
    outLa (some (laB (laL (n0 : Int) (n1 : Int) (n2 : Int) (n3 : Int) (n4 : Int) (n5 : Int) (n6 : Int) (n7 : Int) (n8 : Int) (n9 : Int) (n10 : Int) (n11 : Int)) ++ r)) = some (laL (n0 : Int) (n1 : Int) (n2 : Int) (n3 : Int) (n4 : Int) (n5 : Int) (n6 : Int) (n7 : Int) (n8 : Int) (n9 : Int) (n10 : Int) (n11 : Int), r) := by
  have hall : ∀ x, x ∈ laL (n0 : Int) (n1 : Int) (n2 : Int) (n3 : Int) (n4 : Int) (n5 : Int) (n6 : Int) (n7 : Int) (n8 : Int) (n9 : Int) (n10 : Int) (n11 : Int) → 0 ≤ x ∧ x ≤ 40 := fun x hx => by
    unfold goodLa at hg
    rw [Bool.and_eq_true] at hg
    exact of_decide_eq_true (List.all_eq_true.1 hg.1 x hx)
  have h0 : n0 ≤ 40 := by have := hall (n0 : Int) (by simp); omega
  have h1 : n1 ≤ 40 := by have := hall (n1 : Int) (by simp); omega
  have h2 : n2 ≤ 40 := by have := hall (n2 : Int) (by simp); omega
  have h3 : n3 ≤ 40 := by have := hall (n3 : Int) (by simp); omega
  have h4 : n4 ≤ 40 := by have := hall (n4 : Int) (by simp); omega
  have h5 : n5 ≤ 40 := by have := hall (n5 : Int) (by simp); omega
  have h6 : n6 ≤ 40 := by have := hall (n6 : Int) (by simp); omega
  have h7 : n7 ≤ 40 := by have := hall (n7 : Int) (by simp); omega
  have h8 : n8 ≤ 40 := by have := hall (n8 : Int) (by simp); omega
  have h9 : n9 ≤ 40 := by have := hall (n9 : Int) (by simp); omega
  have h10 : n10 ≤ 40 := by have := hall (n10 : Int) (by simp); omega
  have h11 : n11 ≤ 40 := by have := hall (n11 : Int) (by simp); omega
  have e : laB (laL (n0 : Int) (n1 : Int) (n2 : Int) (n3 : Int) (n4 : Int) (n5 : Int) (n6 : Int) (n7 : Int) (n8 : Int) (n9 : Int) (n10 : Int) (n11 : Int)) ++ r = numB n0 ++ (numB n1 ++ (numB n2 ++ (numB n3 ++ (numB n4 ++ (numB n5 ++ (numB n6 ++ (numB n7 ++ (numB n8 ++ (numB n9 ++ (numB n10 ++ (numB n11 ++ (r)))))))))))) := by
    unfold laB
    simp [List.append_assoc]
  rw [e]
  generalize hb : numB n0 ++ (numB n1 ++ (numB n2 ++ (numB n3 ++ (numB n4 ++ (numB n5 ++ (numB n6 ++ (numB n7 ++ (numB n8 ++ (numB n9 ++ (numB n10 ++ (numB n11 ++ (r)))))))))))) = b
  have s0 : stN (some b) 0 = some (numB n0 ++ (numB n1 ++ (numB n2 ++ (numB n3 ++ (numB n4 ++ (numB n5 ++ (numB n6 ++ (numB n7 ++ (numB n8 ++ (numB n9 ++ (numB n10 ++ (numB n11 ++ (r))))))))))))) := by
    rw [← hb]; rfl
  have v0 : vN (some b) 0 = n0 := by
    show (numOf (stN (some b) 0) 40).1 = _
    rw [s0, numOf_put _ h0]
  have s1 : stN (some b) 1 = some (numB n1 ++ (numB n2 ++ (numB n3 ++ (numB n4 ++ (numB n5 ++ (numB n6 ++ (numB n7 ++ (numB n8 ++ (numB n9 ++ (numB n10 ++ (numB n11 ++ (r)))))))))))) := by
    show (numOf (stN (some b) 0) 40).2 = _; rw [s0, numOf_put _ h0]
  have v1 : vN (some b) 1 = n1 := by
    show (numOf (stN (some b) 1) 40).1 = _
    rw [s1, numOf_put _ h1]
  have s2 : stN (some b) 2 = some (numB n2 ++ (numB n3 ++ (numB n4 ++ (numB n5 ++ (numB n6 ++ (numB n7 ++ (numB n8 ++ (numB n9 ++ (numB n10 ++ (numB n11 ++ (r))))))))))) := by
    show (numOf (stN (some b) 1) 40).2 = _; rw [s1, numOf_put _ h1]
  have v2 : vN (some b) 2 = n2 := by
    show (numOf (stN (some b) 2) 40).1 = _
    rw [s2, numOf_put _ h2]
  have s3 : stN (some b) 3 = some (numB n3 ++ (numB n4 ++ (numB n5 ++ (numB n6 ++ (numB n7 ++ (numB n8 ++ (numB n9 ++ (numB n10 ++ (numB n11 ++ (r)))))))))) := by
    show (numOf (stN (some b) 2) 40).2 = _; rw [s2, numOf_put _ h2]
  have v3 : vN (some b) 3 = n3 := by
    show (numOf (stN (some b) 3) 40).1 = _
    rw [s3, numOf_put _ h3]
  have s4 : stN (some b) 4 = some (numB n4 ++ (numB n5 ++ (numB n6 ++ (numB n7 ++ (numB n8 ++ (numB n9 ++ (numB n10 ++ (numB n11 ++ (r))))))))) := by
    show (numOf (stN (some b) 3) 40).2 = _; rw [s3, numOf_put _ h3]
  have v4 : vN (some b) 4 = n4 := by
    show (numOf (stN (some b) 4) 40).1 = _
    rw [s4, numOf_put _ h4]
  have s5 : stN (some b) 5 = some (numB n5 ++ (numB n6 ++ (numB n7 ++ (numB n8 ++ (numB n9 ++ (numB n10 ++ (numB n11 ++ (r)))))))) := by
    show (numOf (stN (some b) 4) 40).2 = _; rw [s4, numOf_put _ h4]
  have v5 : vN (some b) 5 = n5 := by
    show (numOf (stN (some b) 5) 40).1 = _
    rw [s5, numOf_put _ h5]
  have s6 : stN (some b) 6 = some (numB n6 ++ (numB n7 ++ (numB n8 ++ (numB n9 ++ (numB n10 ++ (numB n11 ++ (r))))))) := by
    show (numOf (stN (some b) 5) 40).2 = _; rw [s5, numOf_put _ h5]
  have v6 : vN (some b) 6 = n6 := by
    show (numOf (stN (some b) 6) 40).1 = _
    rw [s6, numOf_put _ h6]
  have s7 : stN (some b) 7 = some (numB n7 ++ (numB n8 ++ (numB n9 ++ (numB n10 ++ (numB n11 ++ (r)))))) := by
    show (numOf (stN (some b) 6) 40).2 = _; rw [s6, numOf_put _ h6]
  have v7 : vN (some b) 7 = n7 := by
    show (numOf (stN (some b) 7) 40).1 = _
    rw [s7, numOf_put _ h7]
  have s8 : stN (some b) 8 = some (numB n8 ++ (numB n9 ++ (numB n10 ++ (numB n11 ++ (r))))) := by
    show (numOf (stN (some b) 7) 40).2 = _; rw [s7, numOf_put _ h7]
  have v8 : vN (some b) 8 = n8 := by
    show (numOf (stN (some b) 8) 40).1 = _
    rw [s8, numOf_put _ h8]
  have s9 : stN (some b) 9 = some (numB n9 ++ (numB n10 ++ (numB n11 ++ (r)))) := by
    show (numOf (stN (some b) 8) 40).2 = _; rw [s8, numOf_put _ h8]
  have v9 : vN (some b) 9 = n9 := by
    show (numOf (stN (some b) 9) 40).1 = _
    rw [s9, numOf_put _ h9]
  have s10 : stN (some b) 10 = some (numB n10 ++ (numB n11 ++ (r))) := by
    show (numOf (stN (some b) 9) 40).2 = _; rw [s9, numOf_put _ h9]
  have v10 : vN (some b) 10 = n10 := by
    show (numOf (stN (some b) 10) 40).1 = _
    rw [s10, numOf_put _ h10]
  have s11 : stN (some b) 11 = some (numB n11 ++ (r)) := by
    show (numOf (stN (some b) 10) 40).2 = _; rw [s10, numOf_put _ h10]
  have v11 : vN (some b) 11 = n11 := by
    show (numOf (stN (some b) 11) 40).1 = _
    rw [s11, numOf_put _ h11]
  have s12 : stN (some b) 12 = some r := by
    show (numOf (stN (some b) 11) 40).2 = _
    rw [s11, numOf_put _ h11]
  have eL : lastsOf (some b) = laL (n0 : Int) (n1 : Int) (n2 : Int) (n3 : Int) (n4 : Int) (n5 : Int) (n6 : Int) (n7 : Int) (n8 : Int) (n9 : Int) (n10 : Int) (n11 : Int) := by
    show laL ((vN (some b) 0 : Nat) : Int) ((vN (some b) 1 : Nat) : Int) ((vN (some b) 2 : Nat) : Int) ((vN (some b) 3 : Nat) : Int) ((vN (some b) 4 : Nat) : Int) ((vN (some b) 5 : Nat) : Int) ((vN (some b) 6 : Nat) : Int) ((vN (some b) 7 : Nat) : Int) ((vN (some b) 8 : Nat) : Int) ((vN (some b) 9 : Nat) : Int) ((vN (some b) 10 : Nat) : Int) ((vN (some b) 11 : Nat) : Int) = _
    rw [v0, v1, v2, v3, v4, v5, v6, v7, v8, v9, v10, v11]
  unfold outLa
  rw [s12, eL]
  dsimp only
  rw [if_pos hg]
end Go.Proofs.YtnlnbgcmmlpniaaDoor

namespace Go.Proofs.YtnlnbgcmmlpniaaDoor
open Go.RowKit
attribute [local go_sem ↓] Go.wp_at_zero Go.wp_at_succ

/-- What such a call answers: a slice that the call owns, and how many bytes. -/
def TakeXP {α : Type} (t : TypeId) (z : Nat) (cells : α → Array Value) (r : List α × Nat) (w : World) (e : Ending) (w' : World) : Prop :=
  (∃ (A : Option Addr) (n c : Nat), e = .returned (.tuple #[.slice A n c, .int .i64 (r.2 : Nat)]) ∧ OwnX t z w.heap.size w' A n c (r.1.map cells)) ∧ Below w.heap.size w w'
theorem rdS_ofR {B : Nat} {W : World} {A : Option Addr} {L : List (List UInt8)} (h : RdX 1 B W A (L.map preC)) : RdS B W A (baL L) := by
  intro k x hx
  unfold baL at hx
  rw [List.getElem?_map] at hx
  cases hy : L[k]? with
  | none => rw [hy] at hx; cases hx
  | some y =>
    rw [hy] at hx
    injection hx with hx
    subst hx
    obtain ⟨ad, hA, hl, hc⟩ := h k _ (map_getR hy)
    refine ⟨ad, hA, hl, ?_⟩
    have := hc 0 _ rfl
    rwa [Nat.mul_one, Nat.add_zero] at this
theorem takeText_20 (b : List UInt8) : (takeTextB b 20).1.length ≤ 20 := by
  by_cases h : (takeTextB b 20).2 = 0
  · unfold takeTextB at h ⊢
    split
    · exact Nat.zero_le _
    · rename_i h1
      rw [if_neg h1] at h
      dsimp only at h
      omega
  · exact (text_take (b := b) (most := 20) (k := (takeTextB b 20).2) (s := (takeTextB b 20).1) rfl h).1
theorem listG_all {α : Type} {f : List UInt8 → α × Nat} {P : α → Prop} (h : ∀ b, P (f b).1) (l : List UInt8) (p : Nat) : ∀ (j : Nat) (x : α), x ∈ listG f l p j → P x
  | 0, x, hx => by cases hx
  | j + 1, x, hx => by
    rw [listG_succ] at hx
    rcases List.mem_append.1 hx with hx | hx
    · exact listG_all h l p j x hx
    · rw [List.mem_singleton.1 hx]
      exact h _

theorem std_next {α : Type} {f : List UInt8 → α × Nat} {l : List UInt8} {k j : Nat} (hA : StdG f l k j) (h : (nthG f l k j).2 ≠ 0) : StdG f l k (j + 1) := by
  intro i hi
  by_cases e : i = j
  · rw [e]; exact h
  · exact hA i (by omega)
theorem arr_fitsR {l : List UInt8} {n : Nat} (h : l.length ≤ n) (hn : n ≤ 1000) : (⟨l.toArray⟩ : ByteArray).size ≤ maxLen := by
  show l.toArray.size ≤ maxLen
  unfold maxLen
  simp
  omega
theorem valOf_pos {b : List UInt8} (h : (takeValB b).2 ≠ 0) : valOf (some b) = ((takeValB b).1, some (b.drop (takeValB b).2)) := if_neg h
theorem val_fitsB {b : List UInt8} (h : (takeValB b).2 ≠ 0) : (-9223372036854775808 ≤ (takeValB b).1.2.1 ∧ (takeValB b).1.2.1 ≤ 9223372036854775807) ∧ (takeValB b).1.2.2.length ≤ 40 := by
  have hv := val_fits (some b)
  rw [valOf_pos h] at hv
  exact hv
theorem takeCl_fits (b : List UInt8) : (takeClB b).1.fits := by
  have hz : Cl.fits clNo := ⟨Nat.zero_le _, Nat.zero_le _, by show (-9223372036854775808 : Int) ≤ 0; omega, by show (0 : Int) ≤ 9223372036854775807; omega⟩
  unfold takeClB
  split
  · exact hz
  · rename_i h
    have hv := val_fitsB (b := b.drop (takeTextB b 20).2) (by omega)
    exact ⟨arr_fitsR (takeText_20 b) (by omega), arr_fitsR hv.2 (by omega), hv.1.1, hv.1.2⟩
theorem gotW_fits {b : List UInt8} (h1 : (textW b).1.length ≤ 20) (h2 : (-9223372036854775808 ≤ (val1W b).1.2.1 ∧ (val1W b).1.2.1 ≤ 9223372036854775807) ∧ (val1W b).1.2.2.length ≤ 40) (h3 : (-9223372036854775808 ≤ (val2W b).1.2.1 ∧ (val2W b).1.2.1 ≤ 9223372036854775807) ∧ (val2W b).1.2.2.length ≤ 40) : (gotW b).fits := by
  generalize hA : textW b = A at h1
  generalize hB : val1W b = B at h2
  generalize hC : val2W b = C at h3
  unfold gotW Wr.fits
  rw [hA, hB, hC]
  exact ⟨arr_fitsR h1 (by omega), arr_fitsR h2.2 (by omega), arr_fitsR h3.2 (by omega), h2.1, h3.1⟩
theorem takeWr_fits (b : List UInt8) : (takeWrB b).1.fits := by
  have hz : Wr.fits wrNo := ⟨Nat.zero_le _, Nat.zero_le _, Nat.zero_le _, ⟨by show (-9223372036854775808 : Int) ≤ 0; omega, by show (0 : Int) ≤ 9223372036854775807; omega⟩, ⟨by show (-9223372036854775808 : Int) ≤ 0; omega, by show (0 : Int) ≤ 9223372036854775807; omega⟩⟩
  by_cases h : stdW b
  · rw [takeWr_yes h]
    obtain ⟨_, _, h3, h4, _⟩ := h
    refine gotW_fits (takeText_20 _) ?_ ?_
    · unfold val1W at h3 ⊢
      exact val_fitsB h3
    · unfold val2W at h4 ⊢
      exact val_fitsB h4
  · rw [takeWr_no h]
    exact hz
theorem takeLn_fits (b : List UInt8) : (takeLnB b).1.fits := by
  unfold takeLnB
  split
  · exact ⟨Nat.zero_le _, Nat.zero_le _, Nat.zero_le _, ⟨by show (-9223372036854775808 : Int) ≤ 0; omega, by show (0 : Int) ≤ 9223372036854775807; omega⟩, ⟨by show (-9223372036854775808 : Int) ≤ 0; omega, by show (0 : Int) ≤ 9223372036854775807; omega⟩⟩
  · exact takeWr_fits _

end Go.Proofs.YtnlnbgcmmlpniaaDoor
