/-
  WHAT IS PROVED: the document's answers for lasts (spinneyref07.GoodLasts, Lasts, TakeLasts). Conditions: those typed in each theorem. · plain facts: what package roll's calls take of a reader is what the document takes of its bytes; what is put is taken again. Conditions: those typed in each theorem. · whether two lists of cells, of lines are the same (spinneyref07.Same, SameCells); lines as the document has them. Conditions: those typed in each theorem. · errors.Is and errors.As of Go's own text, walked, where package pack calls them: of no error, of its sentinel, of its own error type 'wrong'. Conditions: those typed in each theorem.
-/
import Derived.Test.YtpjleeeligahaaaGreatDoorRLasts2
import Derived.Test.YtpjleeeligahaaaGreatDoorGQ11
import Derived.Test.YtpjleeeligahaaaGreatDoorGQ5
import Derived.Test.YtpjleeeligahaaaGreatDoorRTake
import Derived.Test.YtpjleeeligahaaaGreatDoorRTakeL
import Derived.Test.YtpjleeeligahaaaGreatDoorGQ6
import Derived.Test.YtpjleeeligahaaaGreatDoorGQ1
import Derived.WalkKit
import Derived.LaidEql
import Derived.Stop.Asserts
import Derived.RowKitTokens
namespace Go.Proofs.YtpjleeeligahaaaGreatDoor
open Go.RowKit
attribute [local go_sem ↓] Go.wp_at_zero Go.wp_at_succ

theorem la_get (a0 a1 a2 a3 a4 a5 a6 a7 a8 a9 a10 a11 : Int) {j : Nat} (hj : j < 12) : ∃ x, (laL a0 a1 a2 a3 a4 a5 a6 a7 a8 a9 a10 a11)[j]? = some x := ⟨_, List.getElem?_eq_getElem (by simpa using hj)⟩
theorem la_cell {W : World} {b j : Nat} {a0 a1 a2 a3 a4 a5 a6 a7 a8 a9 a10 a11 x : Int} {t : TypeId} (h : Blk W b (laI a0 a1 a2 a3 a4 a5 a6 a7 a8 a9 a10 a11) t) (hx : (laL a0 a1 a2 a3 a4 a5 a6 a7 a8 a9 a10 a11)[j]? = some x) : W.cell? ⟨b, j, none⟩ = some (.int .i64 x) := by
  rw [h.cell j]
  have hm := map_getR (f := Value.int .i64) hx
  have e : ((laL a0 a1 a2 a3 a4 a5 a6 a7 a8 a9 a10 a11).map (Value.int .i64)).toArray = laI a0 a1 a2 a3 a4 a5 a6 a7 a8 a9 a10 a11 := rfl
  rw [← e]
  simpa using hm

/-! TakeLasts. -/
def uZ (u : Nat → Nat) (j i : Nat) : Int := if i < j then (u i : Int) else 0
abbrev rowU (u : Nat → Nat) (j : Nat) : Array Value := laI (uZ u j 0) (uZ u j 1) (uZ u j 2) (uZ u j 3) (uZ u j 4) (uZ u j 5) (uZ u j 6) (uZ u j 7) (uZ u j 8) (uZ u j 9) (uZ u j 10) (uZ u j 11)
theorem rowU_set (u : Nat → Nat) {j : Nat} (hj : j < 12) : (rowU u j).setIfInBounds j (.int .i64 (u j : Int)) = rowU u (j + 1) := by
  have h : ∀ i, uZ u (j + 1) i = if i = j then (u j : Int) else uZ u j i := by
    intro i
    unfold uZ
    by_cases e : i = j
    · rw [if_pos e, if_pos (by omega), e]
    · rw [if_neg e]
      by_cases hi : i < j
      · rw [if_pos hi, if_pos (by omega)]
      · rw [if_neg hi, if_neg (by omega)]
  have hc : j = 0 ∨ j = 1 ∨ j = 2 ∨ j = 3 ∨ j = 4 ∨ j = 5 ∨ j = 6 ∨ j = 7 ∨ j = 8 ∨ j = 9 ∨ j = 10 ∨ j = 11 := by omega
  unfold rowU
  simp only [h]
  rcases hc with rfl | rfl | rfl | rfl | rfl | rfl | rfl | rfl | rfl | rfl | rfl | rfl <;> rfl
theorem rowU_at (u : Nat → Nat) (i : Nat) {j : Nat} (hj : j < 12) : (rowU u i)[j]? = some (.int .i64 (uZ u i j)) := by
  have hc : j = 0 ∨ j = 1 ∨ j = 2 ∨ j = 3 ∨ j = 4 ∨ j = 5 ∨ j = 6 ∨ j = 7 ∨ j = 8 ∨ j = 9 ∨ j = 10 ∨ j = 11 := by omega
  rcases hc with rfl | rfl | rfl | rfl | rfl | rfl | rfl | rfl | rfl | rfl | rfl | rfl <;> rfl
theorem rowU_all (u : Nat → Nat) : rowU u 12 = laI (u 0 : Int) (u 1 : Int) (u 2 : Int) (u 3 : Int) (u 4 : Int) (u 5 : Int) (u 6 : Int) (u 7 : Int) (u 8 : Int) (u 9 : Int) (u 10 : Int) (u 11 : Int) := rfl
theorem takeLa_list (b : List UInt8) : (listG takeLa1 b 0 12).map Int.ofNat = laL ((nthG takeLa1 b 0 0).1 : Int) ((nthG takeLa1 b 0 1).1 : Int) ((nthG takeLa1 b 0 2).1 : Int) ((nthG takeLa1 b 0 3).1 : Int) ((nthG takeLa1 b 0 4).1 : Int) ((nthG takeLa1 b 0 5).1 : Int) ((nthG takeLa1 b 0 6).1 : Int) ((nthG takeLa1 b 0 7).1 : Int) ((nthG takeLa1 b 0 8).1 : Int) ((nthG takeLa1 b 0 9).1 : Int) ((nthG takeLa1 b 0 10).1 : Int) ((nthG takeLa1 b 0 11).1 : Int) := rfl
theorem takeLaB_no {b : List UInt8} (h : (∃ j, j < 12 ∧ (nthG takeLa1 b 0 j).2 = 0) ∨ (nthG takeLa1 b 0 0).1 ≠ 0) : takeLaB b = (laL 0 0 0 0 0 0 0 0 0 0 0 0, 0) := by
  unfold takeLaB
  rw [if_neg]
  · rfl
  · rintro ⟨h1, h2⟩
    rcases h with ⟨j, hj, h⟩ | h
    · exact h1 j hj h
    · exact h h2
theorem takeLaB_yes {b : List UInt8} (h : StdG takeLa1 b 0 12) (h2 : (nthG takeLa1 b 0 0).1 = 0) : takeLaB b = ((listG takeLa1 b 0 12).map Int.ofNat, posG takeLa1 b 0 12) := if_pos ⟨h, h2⟩
theorem std_nextL {α : Type} {f : List UInt8 → α × Nat} {l : List UInt8} {k j : Nat} (hA : StdG f l k j) (h : (nthG f l k j).2 ≠ 0) : StdG f l k (j + 1) := by
  intro i hi
  by_cases e : i = j
  · rw [e]; exact h
  · exact hA i (by omega)
def TakeLaP (r : List Int × Nat) (w : World) (e : Ending) (w' : World) : Prop := e = .returned (.tuple #[.agg (lastsI r.1), .int .i64 (r.2 : Nat)]) ∧ Below w.heap.size w w'
end Go.Proofs.YtpjleeeligahaaaGreatDoor

namespace Go.Proofs.YtpjleeeligahaaaGreatDoor
open Go.RowKit

/-- The number that a call answers beside what it took. -/
def codeK (k : Nat) : Int := if k = 0 then 2 else 0
theorem taken_of {α : Type} {S : Addr} {g : Nat} {t : TypeId} {z : Nat} {cells : α → Array Value} {f : List UInt8 → α × Nat} {good : List α → Bool} {b : List UInt8} {most : Nat} {w : World} {e : Ending} {w' : World} (h : TakenX S g t z cells (outG f good (some b) most) w e w') :
    (∃ (A : Option Addr) (n c : Nat), e = .returned (.tuple #[.slice A n c, .int .i64 (codeK (takeG f good b most).2)]) ∧ OwnX t z w.heap.size w' A n c ((takeG f good b most).1.map cells)) ∧ (∃ st, RdrP S w' g st) ∧ w.grownBy w' (some g) := by
  obtain ⟨h, hg⟩ := h
  unfold outG at h
  dsimp only at h
  by_cases h0 : (takeG f good b most).2 = 0
  · rw [if_pos h0] at h
    obtain ⟨he, hst⟩ := h
    have e1 : (takeG f good b most).1 = [] := by
      rcases takeG_or f good b most with h1 | h1
      · rw [h1]
      · exact absurd h0 h1.1
    rw [e1, h0]
    exact ⟨⟨none, 0, 0, he, OwnX.nil _ _ _ _⟩, hst, hg⟩
  · rw [if_neg h0] at h
    obtain ⟨⟨A, n, c, he, hO⟩, hR⟩ := h
    have ec : codeK (takeG f good b most).2 = 0 := if_neg h0
    rw [ec]
    exact ⟨⟨A, n, c, he, hO⟩, ⟨_, hR⟩, hg⟩
/-- Lasts: step by step, and as the document has them. -/
theorem stN_at (b : List UInt8) : ∀ j, (StdG takeLa1 b 0 j → stN (some b) j = some (b.drop (posG takeLa1 b 0 j)) ∧ ∀ i, i < j → vN (some b) i = (nthG takeLa1 b 0 i).1) ∧ ((∃ i, i < j ∧ (nthG takeLa1 b 0 i).2 = 0) → stN (some b) j = none)
  | 0 => ⟨fun _ => ⟨by show some b = some (b.drop 0); simp, fun i hi => by omega⟩, fun ⟨i, hi, _⟩ => by omega⟩
  | j + 1 => by
    obtain ⟨h1, h2⟩ := stN_at b j
    have hs : stN (some b) (j + 1) = (numOf (stN (some b) j) 40).2 := rfl
    have hv : vN (some b) j = (numOf (stN (some b) j) 40).1 := rfl
    by_cases hA : StdG takeLa1 b 0 j
    · obtain ⟨e1, e2⟩ := h1 hA
      have hn : numOf (some (b.drop (posG takeLa1 b 0 j))) 40 = if (nthG takeLa1 b 0 j).2 = 0 then (0, none) else ((nthG takeLa1 b 0 j).1, some ((b.drop (posG takeLa1 b 0 j)).drop (nthG takeLa1 b 0 j).2)) := rfl
      rw [e1, hn] at hs hv
      by_cases h0 : (nthG takeLa1 b 0 j).2 = 0
      · rw [if_pos h0] at hs
        exact ⟨fun hS => absurd h0 (hS j (by omega)), fun _ => hs⟩
      · rw [if_neg h0, List.drop_drop] at hs
        rw [if_neg h0] at hv
        refine ⟨fun _ => ⟨by rw [hs, posG_succ], fun i hi => ?_⟩, fun ⟨i, hi, hz⟩ => ?_⟩
        · by_cases e : i = j
          · rw [e, hv]
          · exact e2 i (by omega)
        · by_cases e : i = j
          · rw [e] at hz
            exact absurd hz h0
          · exact absurd hz (hA i (by omega))
    · have hx : ∃ i, i < j ∧ (nthG takeLa1 b 0 i).2 = 0 := by
        apply Classical.byContradiction
        intro hn
        exact hA fun i hi hz => hn ⟨i, hi, hz⟩
      have e0 := h2 hx
      rw [e0] at hs
      refine ⟨fun hS => absurd (fun i hi => hS i (by omega)) hA, fun _ => hs⟩
theorem vN_le (st : Rest) (i : Nat) : vN st i ≤ 40 := (numOf_lt (stN st i) 40).1
theorem lasts_good (st : Rest) : goodLa (lastsOf st) = decide (vN st 0 = 0) := by
  have h : (lastsOf st) = (List.range 12).map fun i => ((vN st i : Nat) : Int) := rfl
  unfold goodLa
  have h1 : ((lastsOf st).all fun x => decide (0 ≤ x ∧ x ≤ 40)) = true := by
    rw [h, List.all_eq_true]
    intro x hx
    obtain ⟨i, _, rfl⟩ := List.mem_map.1 hx
    have := vN_le st i
    exact decide_eq_true (by omega)
  rw [h1, Bool.true_and]
  show (some (vZ st 12 0) == some 0) = _
  have e : vZ st 12 0 = ((vN st 0 : Nat) : Int) := rfl
  rw [e, Bool.eq_iff_iff]
  simp
theorem outLa_is (b : List UInt8) : outLa (some b) = if (takeLaB b).2 = 0 then none else some ((takeLaB b).1, b.drop (takeLaB b).2) := by
  obtain ⟨h1, h2⟩ := stN_at b 12
  unfold outLa
  rw [lasts_good]
  by_cases hA : StdG takeLa1 b 0 12
  · obtain ⟨e1, e2⟩ := h1 hA
    rw [e1]
    dsimp only
    by_cases h0 : (nthG takeLa1 b 0 0).1 = 0
    · have hpos : ¬ posG takeLa1 b 0 12 = 0 := by
        have := stdG_low (f := takeLa1) (m := 1) (fun b h => Nat.pos_of_ne_zero h) 12 hA
        omega
      rw [decide_eq_true (by rw [e2 0 (by omega)]; exact h0), if_pos rfl, takeLaB_yes hA h0]
      dsimp only
      rw [if_neg hpos]
      have e3 : lastsOf (some b) = (listG takeLa1 b 0 12).map Int.ofNat := by
        have h : (lastsOf (some b)) = (List.range 12).map fun i => ((vN (some b) i : Nat) : Int) := rfl
        have h' : (listG takeLa1 b 0 12).map Int.ofNat = (List.range 12).map fun i => (((nthG takeLa1 b 0 i).1 : Nat) : Int) := rfl
        rw [h, h']
        refine List.map_congr_left fun i hi => ?_
        rw [e2 i (List.mem_range.1 hi)]
      rw [e3]
    · rw [decide_eq_false (by rw [e2 0 (by omega)]; exact h0), if_neg Bool.false_ne_true, takeLaB_no (.inr h0)]
      exact (if_pos rfl).symm
  · have hx : ∃ i, i < 12 ∧ (nthG takeLa1 b 0 i).2 = 0 := by
      apply Classical.byContradiction
      intro hn
      exact hA fun i hi hz => hn ⟨i, hi, hz⟩
    rw [h2 hx, takeLaB_no (.inl hx)]
    exact (if_pos rfl).symm
theorem takeLa_form (b : List UInt8) : ∃ v0 v1 v2 v3 v4 v5 v6 v7 v8 v9 v10 v11 : Int, (takeLaB b).1 = laL v0 v1 v2 v3 v4 v5 v6 v7 v8 v9 v10 v11 := by
  by_cases h : StdG takeLa1 b 0 12 ∧ (nthG takeLa1 b 0 0).1 = 0
  · rw [takeLaB_yes h.1 h.2]
    exact ⟨_, _, _, _, _, _, _, _, _, _, _, _, takeLa_list b⟩
  · refine ⟨0, 0, 0, 0, 0, 0, 0, 0, 0, 0, 0, 0, ?_⟩
    unfold takeLaB
    rw [if_neg h]
    rfl
theorem takenLa_of {S : Addr} {g : Nat} {b : List UInt8} {w : World} {e : Ending} {w' : World} (h : TakenLa S g (outLa (some b)) w e w') :
    e = .returned (.tuple #[.agg (lastsI (takeLaB b).1), .int .i64 (codeK (takeLaB b).2)]) ∧ (∃ st, RdrP S w' g st) ∧ w.grownBy w' (some g) := by
  obtain ⟨h, hg⟩ := h
  rw [outLa_is] at h
  by_cases h0 : (takeLaB b).2 = 0
  · rw [if_pos h0] at h
    have e1 : (takeLaB b).1 = laL 0 0 0 0 0 0 0 0 0 0 0 0 := by
      by_cases hA : StdG takeLa1 b 0 12 ∧ (nthG takeLa1 b 0 0).1 = 0
      · rw [takeLaB_yes hA.1 hA.2] at h0
        have := stdG_low (f := takeLa1) (m := 1) (fun b h => Nat.pos_of_ne_zero h) 12 hA.1
        dsimp only at h0
        omega
      · unfold takeLaB
        rw [if_neg hA]
        rfl
    rw [e1, h0]
    exact ⟨h.1, h.2, hg⟩
  · rw [if_neg h0] at h
    have ec : codeK (takeLaB b).2 = 0 := if_neg h0
    rw [ec]
    exact ⟨h.1, ⟨_, h.2⟩, hg⟩
/-- What is put is taken again. -/
theorem out_put {α : Type} {f : List UInt8 → α × Nat} {E : α → List UInt8} {good : List α → Bool} {l : List α} {most : Nat} (r : List UInt8) (hn : l.length < 18446744073709551616) (hm : l.length ≤ most) (hg : ∀ x, x ∈ l → PutG f E x) (h0 : ∀ x, x ∈ l → (E x).length ≠ 0) (hgood : good l = true) :
    outG f good (some (numB l.length ++ l.flatMap E ++ r)) most = some (l, r) := by
  unfold outG
  dsimp only
  rw [takeG_put r hn hm hg h0 hgood]
  dsimp only
  rw [if_neg (by rw [List.length_append, numB_len]; omega), List.drop_left]
theorem numOf_put {n : Nat} (r : List UInt8) (h : n ≤ 40) : numOf (some (numB n ++ r)) 40 = (n, some r) := by
  have ht := take_num (n := n) (most := 40) r (by omega) h
  unfold numOf
  dsimp only
  rw [ht]
  dsimp only
  rw [if_neg (by rw [numB_len]; omega), List.drop_left]
theorem outLa_put (n0 n1 n2 n3 n4 n5 n6 n7 n8 n9 n10 n11 : Nat) (r : List UInt8) (hg : goodLa (laL (n0 : Int) (n1 : Int) (n2 : Int) (n3 : Int) (n4 : Int) (n5 : Int) (n6 : Int) (n7 : Int) (n8 : Int) (n9 : Int) (n10 : Int) (n11 : Int)) = true) :
    outLa (some (laB (laL (n0 : Int) (n1 : Int) (n2 : Int) (n3 : Int) (n4 : Int) (n5 : Int) (n6 : Int) (n7 : Int) (n8 : Int) (n9 : Int) (n10 : Int) (n11 : Int)) ++ r)) = some (laL (n0 : Int) (n1 : Int) (n2 : Int) (n3 : Int) (n4 : Int) (n5 : Int) (n6 : Int) (n7 : Int) (n8 : Int) (n9 : Int) (n10 : Int) (n11 : Int), r) := by
  have hall : ∀ x, x ∈ laL (n0 : Int) (n1 : Int) (n2 : Int) (n3 : Int) (n4 : Int) (n5 : Int) (n6 : Int) (n7 : Int) (n8 : Int) (n9 : Int) (n10 : Int) (n11 : Int) → 0 ≤ x ∧ x ≤ 40 := fun x hx => by
    unfold goodLa at hg
    rw [Bool.and_eq_true] at hg
    exact of_decide_eq_true (List.all_eq_true.1 hg.1 x hx)
  have h0 : n0 ≤ 40 := by have := hall (n0 : Int) (by simp); omega
  have h1 : n1 ≤ 40 := by have := hall (n1 : Int) (by simp); omega
  have h2 : n2 ≤ 40 := by have := hall (n2 : Int) (by simp); omega
  have h3 : n3 ≤ 40 := by have := hall (n3 : Int) (by simp); omega
  have h4 : n4 ≤ 40 := by have := hall (n4 : Int) (by simp); omega
  have h5 : n5 ≤ 40 := by have := hall (n5 : Int) (by simp); omega
  have h6 : n6 ≤ 40 := by have := hall (n6 : Int) (by simp); omega
  have h7 : n7 ≤ 40 := by have := hall (n7 : Int) (by simp); omega
  have h8 : n8 ≤ 40 := by have := hall (n8 : Int) (by simp); omega
  have h9 : n9 ≤ 40 := by have := hall (n9 : Int) (by simp); omega
  have h10 : n10 ≤ 40 := by have := hall (n10 : Int) (by simp); omega
  have h11 : n11 ≤ 40 := by have := hall (n11 : Int) (by simp); omega
  have e : laB (laL (n0 : Int) (n1 : Int) (n2 : Int) (n3 : Int) (n4 : Int) (n5 : Int) (n6 : Int) (n7 : Int) (n8 : Int) (n9 : Int) (n10 : Int) (n11 : Int)) ++ r = numB n0 ++ (numB n1 ++ (numB n2 ++ (numB n3 ++ (numB n4 ++ (numB n5 ++ (numB n6 ++ (numB n7 ++ (numB n8 ++ (numB n9 ++ (numB n10 ++ (numB n11 ++ (r)))))))))))) := by
    unfold laB
    simp [List.append_assoc]
  rw [e]
  generalize hb : numB n0 ++ (numB n1 ++ (numB n2 ++ (numB n3 ++ (numB n4 ++ (numB n5 ++ (numB n6 ++ (numB n7 ++ (numB n8 ++ (numB n9 ++ (numB n10 ++ (numB n11 ++ (r)))))))))))) = b
  have s0 : stN (some b) 0 = some (numB n0 ++ (numB n1 ++ (numB n2 ++ (numB n3 ++ (numB n4 ++ (numB n5 ++ (numB n6 ++ (numB n7 ++ (numB n8 ++ (numB n9 ++ (numB n10 ++ (numB n11 ++ (r))))))))))))) := by
    rw [← hb]; rfl
  have v0 : vN (some b) 0 = n0 := by
    show (numOf (stN (some b) 0) 40).1 = _
    rw [s0, numOf_put _ h0]
  have s1 : stN (some b) 1 = some (numB n1 ++ (numB n2 ++ (numB n3 ++ (numB n4 ++ (numB n5 ++ (numB n6 ++ (numB n7 ++ (numB n8 ++ (numB n9 ++ (numB n10 ++ (numB n11 ++ (r)))))))))))) := by
    show (numOf (stN (some b) 0) 40).2 = _; rw [s0, numOf_put _ h0]
  have v1 : vN (some b) 1 = n1 := by
    show (numOf (stN (some b) 1) 40).1 = _
    rw [s1, numOf_put _ h1]
  have s2 : stN (some b) 2 = some (numB n2 ++ (numB n3 ++ (numB n4 ++ (numB n5 ++ (numB n6 ++ (numB n7 ++ (numB n8 ++ (numB n9 ++ (numB n10 ++ (numB n11 ++ (r))))))))))) := by
    show (numOf (stN (some b) 1) 40).2 = _; rw [s1, numOf_put _ h1]
  have v2 : vN (some b) 2 = n2 := by
    show (numOf (stN (some b) 2) 40).1 = _
    rw [s2, numOf_put _ h2]
  have s3 : stN (some b) 3 = some (numB n3 ++ (numB n4 ++ (numB n5 ++ (numB n6 ++ (numB n7 ++ (numB n8 ++ (numB n9 ++ (numB n10 ++ (numB n11 ++ (r)))))))))) := by
    show (numOf (stN (some b) 2) 40).2 = _; rw [s2, numOf_put _ h2]
  have v3 : vN (some b) 3 = n3 := by
    show (numOf (stN (some b) 3) 40).1 = _
    rw [s3, numOf_put _ h3]
  have s4 : stN (some b) 4 = some (numB n4 ++ (numB n5 ++ (numB n6 ++ (numB n7 ++ (numB n8 ++ (numB n9 ++ (numB n10 ++ (numB n11 ++ (r))))))))) := by
    show (numOf (stN (some b) 3) 40).2 = _; rw [s3, numOf_put _ h3]
  have v4 : vN (some b) 4 = n4 := by
    show (numOf (stN (some b) 4) 40).1 = _
    rw [s4, numOf_put _ h4]
  have s5 : stN (some b) 5 = some (numB n5 ++ (numB n6 ++ (numB n7 ++ (numB n8 ++ (numB n9 ++ (numB n10 ++ (numB n11 ++ (r)))))))) := by
    show (numOf (stN (some b) 4) 40).2 = _; rw [s4, numOf_put _ h4]
  have v5 : vN (some b) 5 = n5 := by
    show (numOf (stN (some b) 5) 40).1 = _
    rw [s5, numOf_put _ h5]
  have s6 : stN (some b) 6 = some (numB n6 ++ (numB n7 ++ (numB n8 ++ (numB n9 ++ (numB n10 ++ (numB n11 ++ (r))))))) := by
    show (numOf (stN (some b) 5) 40).2 = _; rw [s5, numOf_put _ h5]
  have v6 : vN (some b) 6 = n6 := by
    show (numOf (stN (some b) 6) 40).1 = _
    rw [s6, numOf_put _ h6]
  have s7 : stN (some b) 7 = some (numB n7 ++ (numB n8 ++ (numB n9 ++ (numB n10 ++ (numB n11 ++ (r)))))) := by
    show (numOf (stN (some b) 6) 40).2 = _; rw [s6, numOf_put _ h6]
  have v7 : vN (some b) 7 = n7 := by
    show (numOf (stN (some b) 7) 40).1 = _
    rw [s7, numOf_put _ h7]
  have s8 : stN (some b) 8 = some (numB n8 ++ (numB n9 ++ (numB n10 ++ (numB n11 ++ (r))))) := by
    show (numOf (stN (some b) 7) 40).2 = _; rw [s7, numOf_put _ h7]
  have v8 : vN (some b) 8 = n8 := by
    show (numOf (stN (some b) 8) 40).1 = _
    rw [s8, numOf_put _ h8]
  have s9 : stN (some b) 9 = some (numB n9 ++ (numB n10 ++ (numB n11 ++ (r)))) := by
    show (numOf (stN (some b) 8) 40).2 = _; rw [s8, numOf_put _ h8]
  have v9 : vN (some b) 9 = n9 := by
    show (numOf (stN (some b) 9) 40).1 = _
    rw [s9, numOf_put _ h9]
  have s10 : stN (some b) 10 = some (numB n10 ++ (numB n11 ++ (r))) := by
    show (numOf (stN (some b) 9) 40).2 = _; rw [s9, numOf_put _ h9]
  have v10 : vN (some b) 10 = n10 := by
    show (numOf (stN (some b) 10) 40).1 = _
    rw [s10, numOf_put _ h10]
  have s11 : stN (some b) 11 = some (numB n11 ++ (r)) := by
    show (numOf (stN (some b) 10) 40).2 = _; rw [s10, numOf_put _ h10]
  have v11 : vN (some b) 11 = n11 := by
    show (numOf (stN (some b) 11) 40).1 = _
    rw [s11, numOf_put _ h11]
  have s12 : stN (some b) 12 = some r := by
    show (numOf (stN (some b) 11) 40).2 = _
    rw [s11, numOf_put _ h11]
  have eL : lastsOf (some b) = laL (n0 : Int) (n1 : Int) (n2 : Int) (n3 : Int) (n4 : Int) (n5 : Int) (n6 : Int) (n7 : Int) (n8 : Int) (n9 : Int) (n10 : Int) (n11 : Int) := by
    show laL ((vN (some b) 0 : Nat) : Int) ((vN (some b) 1 : Nat) : Int) ((vN (some b) 2 : Nat) : Int) ((vN (some b) 3 : Nat) : Int) ((vN (some b) 4 : Nat) : Int) ((vN (some b) 5 : Nat) : Int) ((vN (some b) 6 : Nat) : Int) ((vN (some b) 7 : Nat) : Int) ((vN (some b) 8 : Nat) : Int) ((vN (some b) 9 : Nat) : Int) ((vN (some b) 10 : Nat) : Int) ((vN (some b) 11 : Nat) : Int) = _
    rw [v0, v1, v2, v3, v4, v5, v6, v7, v8, v9, v10, v11]
  unfold outLa
  rw [s12, eL]
  dsimp only
  rw [if_pos hg]
end Go.Proofs.YtpjleeeligahaaaGreatDoor

namespace Go.Proofs.YtpjleeeligahaaaGreatDoor
open Go.RowKit
theorem rl_infoS : (Tryz.prog.info? 75).map (fun i => (i.zero, i.size, i.bytes)) = some (some (.agg (lnI 0 0 0 0 ⟨#[]⟩ 0 0 ⟨#[]⟩ 0 0 ⟨#[]⟩)), 11, 112) := by kernel_rfl
theorem map_getS {α β : Type} {f : α → β} {l : List α} {k : Nat} {x : α} (h : l[k]? = some x) : (l.map f)[k]? = some (f x) := by rw [List.getElem?_map, h]; rfl
attribute [local go_sem ↓] Go.wp_at_zero Go.wp_at_succ

open Classical in
/-- The same lists? -/
noncomputable def sameG {α : Type} (l l2 : List α) : Bool := decide (l = l2)
open Classical in
theorem sameG_no {α : Type} {l l2 : List α} (h : l ≠ l2) : sameG l l2 = false := decide_eq_false h
open Classical in
theorem sameG_yes {α : Type} {l l2 : List α} (h : l = l2) : sameG l l2 = true := decide_eq_true h
theorem cl_neq {x y : Cl} (h : x ≠ y) (W : World) : (binOp .neq 61 (.agg x.cells) (.agg y.cells)).run Tryz.prog W = .ok (.bool true) W := by
  go_simp
  intro h0 h1 h2 h3
  refine h ?_
  have e0 := str_ext h0
  have e3 := str_ext h3
  cases x
  cases y
  simp only at e0 h1 h2 e3
  simp only [e0, h1, h2, e3]
theorem cl_eq (x : Cl) (W : World) : (binOp .neq 61 (.agg x.cells) (.agg x.cells)).run Tryz.prog W = .ok (.bool false) W := by
  go_simp
theorem ln_neq {x y : Ln} (h : x ≠ y) (W : World) : (binOp .neq 75 (.agg x.cells) (.agg y.cells)).run Tryz.prog W = .ok (.bool true) W := by
  go_simp
  intro hp h0 h1 h2 h3 h4 h5 h6 h7 h8 h9
  refine h ?_
  have e3 := str_ext h3
  have e6 := str_ext h6
  have e9 := str_ext h9
  obtain ⟨px, x⟩ := x
  obtain ⟨py, y⟩ := y
  cases x
  cases y
  simp only at hp h0 h1 h2 e3 h4 h5 e6 h7 h8 e9
  simp only [hp, h0, h1, h2, e3, h4, h5, e6, h7, h8, e9]
theorem ln_eq (x : Ln) (W : World) : (binOp .neq 75 (.agg x.cells) (.agg x.cells)).run Tryz.prog W = .ok (.bool false) W := by
  go_simp

set_option maxRecDepth 100000 in
set_option maxHeartbeats 4000000 in
theorem refSameC_any {B C : Nat} (A A2 : Option Addr) (n c m d : Nat) (l l2 : List Cl) (w : World) (hn : l.length = n) (hr : RdX 4 B w A (l.map Cl.cells)) (hm : n ≤ 1000000) (hn2 : l2.length = m) (hr2 : RdX 4 C w A2 (l2.map Cl.cells)) :
    Calls Tryz.prog 52 #[.slice A n c, .slice A2 m d] w fun e w' => e = .returned (.bool (sameG l l2)) ∧ Drn w w' := by
  have HN := Lib.hid hn
  have HN2 := Lib.hid hn2
  by_cases hnm : n = m
  · subst hnm
    clear hn hn2
    go_enter Tryz.func52, Tryz.ntmps52
    go_wp2_with fail
    go_loopw [13] (fun i wr => ∃ k : Nat, k ≤ n ∧ i = .int .i64 k ∧ Hid (l.take k = l2.take k) ∧ Drn w wr) (fun i _ => n - (intOf i).toNat)
    case atStart => exact ⟨0, Nat.zero_le _, rfl, rfl, Drn.refl _⟩
    case round =>
      obtain ⟨k, hk, rfl, hA, hD⟩ := hrel
      by_cases hlt : k < n
      · obtain ⟨x, hx⟩ : ∃ x, l[k]? = some x := ⟨_, List.getElem?_eq_getElem (show k < l.length by have := HN.out; omega)⟩
        obtain ⟨y, hy⟩ : ∃ y, l2[k]? = some y := ⟨_, List.getElem?_eq_getElem (show k < l2.length by have := HN2.out; omega)⟩
        obtain ⟨ad, rfl, _, hc⟩ := (hr.keep (hD.below B) (Nat.le_refl _)) k _ (map_getS hx)
        obtain ⟨ad2, rfl, _, hc2⟩ := (hr2.keep (hD.below C) (Nat.le_refl _)) k _ (map_getS hy)
        have i1 : (0 : Int) ≤ (k : Int) := by omega
        have i2 : (k : Int) < (n : Int) := by omega
        have HX := Lib.hid hx
        have HY := Lib.hid hy
        clear hx hy
        have q0 : wr.cell? (ad.add (k * 4)) = some (.string x.ky) := (celX hc).1 _ rfl
        have q1 : wr.cell? ⟨(ad.add (k * 4)).block, (ad.add (k * 4)).off + 1, none⟩ = some (.int .i64 x.k) := (celX hc).2 0 _ rfl
        have q2 : wr.cell? ⟨(ad.add (k * 4)).block, (ad.add (k * 4)).off + 2, none⟩ = some (.int .i64 x.x) := (celX hc).2 1 _ rfl
        have q3 : wr.cell? ⟨(ad.add (k * 4)).block, (ad.add (k * 4)).off + 3, none⟩ = some (.string x.s) := (celX hc).2 2 _ rfl
        have y0 : wr.cell? (ad2.add (k * 4)) = some (.string y.ky) := (celX hc2).1 _ rfl
        have y1 : wr.cell? ⟨(ad2.add (k * 4)).block, (ad2.add (k * 4)).off + 1, none⟩ = some (.int .i64 y.k) := (celX hc2).2 0 _ rfl
        have y2 : wr.cell? ⟨(ad2.add (k * 4)).block, (ad2.add (k * 4)).off + 2, none⟩ = some (.int .i64 y.x) := (celX hc2).2 1 _ rfl
        have y3 : wr.cell? ⟨(ad2.add (k * 4)).block, (ad2.add (k * 4)).off + 3, none⟩ = some (.string y.s) := (celX hc2).2 2 _ rfl
        clear hc hc2
        by_cases hxy : x = y
        · subst hxy
          have he := fun W => cl_eq x W
          have HA2 : Hid (l.take (k + 1) = l2.take (k + 1)) := by
            show _ = _
            rw [List.take_add_one, List.take_add_one, HX.out, HY.out, hA.out]
          clear hA
          go_wp2_with fail
          go_quiet (fail)
          go_wp2_with fail
          go_roundw
          case rel => exact ⟨k + 1, by omega, by go_num, HA2, hD.draws _⟩
          case measure => simp [intOf]; omega
        · have he := fun W => cl_neq hxy W
          have R : Hid (sameG l l2 = false) := sameG_no fun e => by
            have h := HX.out
            rw [e, HY.out] at h
            injection h with h
            exact hxy h.symm
          clear hxy hA
          go_wp2_with fail
          go_quiet (fail)
          go_wp2_with fail
          go_ret
          exact ⟨ret_bool R.out.symm, hD.draws _⟩
      · have hq : ¬ (k : Int) < (n : Int) := by omega
        have R : Hid (sameG l l2 = true) := by
          refine sameG_yes ?_
          have h := hA.out
          rw [List.take_of_length_le (by have := HN.out; omega), List.take_of_length_le (by have := HN2.out; omega)] at h
          exact h
        clear hA
        go_wp2_with fail
        go_ret
        exact ⟨ret_bool R.out.symm, hD⟩
  · have e0 : ((n : Int) != (m : Int)) = true := by rw [bne_iff_ne]; omega
    have R : Hid (sameG l l2 = false) := sameG_no fun e => by
      have h := HN.out
      rw [e, HN2.out] at h
      exact hnm h.symm
    clear hnm
    go_enter Tryz.func52, Tryz.ntmps52
    go_wp2_with fail
    go_ret
    exact ⟨ret_bool R.out.symm, Drn.refl _⟩

set_option maxRecDepth 100000 in
set_option maxHeartbeats 4000000 in
theorem refSameL_any {B C : Nat} (A A2 : Option Addr) (n c m d : Nat) (l l2 : List Ln) (w : World) (hn : l.length = n) (hr : RdX 11 B w A (l.map Ln.cells)) (hm : n ≤ 1000000) (hn2 : l2.length = m) (hr2 : RdX 11 C w A2 (l2.map Ln.cells)) :
    Calls Tryz.prog 13 #[.slice A n c, .slice A2 m d] w fun e w' => e = .returned (.bool (sameG l l2)) ∧ Drn w w' := by
  have HN := Lib.hid hn
  have HN2 := Lib.hid hn2
  by_cases hnm : n = m
  · subst hnm
    clear hn hn2
    go_enter Tryz.func13, Tryz.ntmps13
    go_wp2_with fail
    go_loopw [13] (fun i wr => ∃ k : Nat, k ≤ n ∧ i = .int .i64 k ∧ Hid (l.take k = l2.take k) ∧ Drn w wr) (fun i _ => n - (intOf i).toNat)
    case atStart => exact ⟨0, Nat.zero_le _, rfl, rfl, Drn.refl _⟩
    case round =>
      obtain ⟨k, hk, rfl, hA, hD⟩ := hrel
      by_cases hlt : k < n
      · obtain ⟨x, hx⟩ : ∃ x, l[k]? = some x := ⟨_, List.getElem?_eq_getElem (show k < l.length by have := HN.out; omega)⟩
        obtain ⟨y, hy⟩ : ∃ y, l2[k]? = some y := ⟨_, List.getElem?_eq_getElem (show k < l2.length by have := HN2.out; omega)⟩
        obtain ⟨ad, rfl, _, hc⟩ := (hr.keep (hD.below B) (Nat.le_refl _)) k _ (map_getS hx)
        obtain ⟨ad2, rfl, _, hc2⟩ := (hr2.keep (hD.below C) (Nat.le_refl _)) k _ (map_getS hy)
        have i1 : (0 : Int) ≤ (k : Int) := by omega
        have i2 : (k : Int) < (n : Int) := by omega
        have HX := Lib.hid hx
        have HY := Lib.hid hy
        clear hx hy
        have q0 : wr.cell? (ad.add (k * 11)) = some (.int .i64 x.pl) := (celX hc).1 _ rfl
        have q1 : wr.cell? ⟨(ad.add (k * 11)).block, (ad.add (k * 11)).off + 1, none⟩ = some (.int .i64 x.w.dev) := (celX hc).2 0 _ rfl
        have q2 : wr.cell? ⟨(ad.add (k * 11)).block, (ad.add (k * 11)).off + 2, none⟩ = some (.int .i64 x.w.seq) := (celX hc).2 1 _ rfl
        have q3 : wr.cell? ⟨(ad.add (k * 11)).block, (ad.add (k * 11)).off + 3, none⟩ = some (.int .i64 x.w.K) := (celX hc).2 2 _ rfl
        have q4 : wr.cell? ⟨(ad.add (k * 11)).block, (ad.add (k * 11)).off + 4, none⟩ = some (.string x.w.ky) := (celX hc).2 3 _ rfl
        have q5 : wr.cell? ⟨(ad.add (k * 11)).block, (ad.add (k * 11)).off + 5, none⟩ = some (.int .i64 x.w.ka) := (celX hc).2 4 _ rfl
        have q6 : wr.cell? ⟨(ad.add (k * 11)).block, (ad.add (k * 11)).off + 6, none⟩ = some (.int .i64 x.w.na) := (celX hc).2 5 _ rfl
        have q7 : wr.cell? ⟨(ad.add (k * 11)).block, (ad.add (k * 11)).off + 7, none⟩ = some (.string x.w.sa) := (celX hc).2 6 _ rfl
        have q8 : wr.cell? ⟨(ad.add (k * 11)).block, (ad.add (k * 11)).off + 8, none⟩ = some (.int .i64 x.w.kb) := (celX hc).2 7 _ rfl
        have q9 : wr.cell? ⟨(ad.add (k * 11)).block, (ad.add (k * 11)).off + 9, none⟩ = some (.int .i64 x.w.nb) := (celX hc).2 8 _ rfl
        have q10 : wr.cell? ⟨(ad.add (k * 11)).block, (ad.add (k * 11)).off + 10, none⟩ = some (.string x.w.sb) := (celX hc).2 9 _ rfl
        have y0 : wr.cell? (ad2.add (k * 11)) = some (.int .i64 y.pl) := (celX hc2).1 _ rfl
        have y1 : wr.cell? ⟨(ad2.add (k * 11)).block, (ad2.add (k * 11)).off + 1, none⟩ = some (.int .i64 y.w.dev) := (celX hc2).2 0 _ rfl
        have y2 : wr.cell? ⟨(ad2.add (k * 11)).block, (ad2.add (k * 11)).off + 2, none⟩ = some (.int .i64 y.w.seq) := (celX hc2).2 1 _ rfl
        have y3 : wr.cell? ⟨(ad2.add (k * 11)).block, (ad2.add (k * 11)).off + 3, none⟩ = some (.int .i64 y.w.K) := (celX hc2).2 2 _ rfl
        have y4 : wr.cell? ⟨(ad2.add (k * 11)).block, (ad2.add (k * 11)).off + 4, none⟩ = some (.string y.w.ky) := (celX hc2).2 3 _ rfl
        have y5 : wr.cell? ⟨(ad2.add (k * 11)).block, (ad2.add (k * 11)).off + 5, none⟩ = some (.int .i64 y.w.ka) := (celX hc2).2 4 _ rfl
        have y6 : wr.cell? ⟨(ad2.add (k * 11)).block, (ad2.add (k * 11)).off + 6, none⟩ = some (.int .i64 y.w.na) := (celX hc2).2 5 _ rfl
        have y7 : wr.cell? ⟨(ad2.add (k * 11)).block, (ad2.add (k * 11)).off + 7, none⟩ = some (.string y.w.sa) := (celX hc2).2 6 _ rfl
        have y8 : wr.cell? ⟨(ad2.add (k * 11)).block, (ad2.add (k * 11)).off + 8, none⟩ = some (.int .i64 y.w.kb) := (celX hc2).2 7 _ rfl
        have y9 : wr.cell? ⟨(ad2.add (k * 11)).block, (ad2.add (k * 11)).off + 9, none⟩ = some (.int .i64 y.w.nb) := (celX hc2).2 8 _ rfl
        have y10 : wr.cell? ⟨(ad2.add (k * 11)).block, (ad2.add (k * 11)).off + 10, none⟩ = some (.string y.w.sb) := (celX hc2).2 9 _ rfl
        clear hc hc2
        by_cases hxy : x = y
        · subst hxy
          have he := fun W => ln_eq x W
          have HA2 : Hid (l.take (k + 1) = l2.take (k + 1)) := by
            show _ = _
            rw [List.take_add_one, List.take_add_one, HX.out, HY.out, hA.out]
          clear hA
          go_wp2_with fail
          go_quiet (fail)
          go_wp2_with fail
          go_roundw
          case rel => exact ⟨k + 1, by omega, by go_num, HA2, hD.draws _⟩
          case measure => simp [intOf]; omega
        · have he := fun W => ln_neq hxy W
          have R : Hid (sameG l l2 = false) := sameG_no fun e => by
            have h := HX.out
            rw [e, HY.out] at h
            injection h with h
            exact hxy h.symm
          clear hxy hA
          go_wp2_with fail
          go_quiet (fail)
          go_wp2_with fail
          go_ret
          exact ⟨ret_bool R.out.symm, hD.draws _⟩
      · have hq : ¬ (k : Int) < (n : Int) := by omega
        have R : Hid (sameG l l2 = true) := by
          refine sameG_yes ?_
          have h := hA.out
          rw [List.take_of_length_le (by have := HN.out; omega), List.take_of_length_le (by have := HN2.out; omega)] at h
          exact h
        clear hA
        go_wp2_with fail
        go_ret
        exact ⟨ret_bool R.out.symm, hD⟩
  · have e0 : ((n : Int) != (m : Int)) = true := by rw [bne_iff_ne]; omega
    have R : Hid (sameG l l2 = false) := sameG_no fun e => by
      have h := HN.out
      rw [e, HN2.out] at h
      exact hnm h.symm
    clear hnm
    go_enter Tryz.func13, Tryz.ntmps13
    go_wp2_with fail
    go_ret
    exact ⟨ret_bool R.out.symm, Drn.refl _⟩

set_option maxRecDepth 100000 in
set_option maxHeartbeats 4000000 in
theorem lines_any {B : Nat} (A : Option Addr) (n c : Nat) (l : List Ln) (w : World) (hn : l.length = n) (hr : RdX 11 B w A (l.map Ln.cells)) (hB : B ≤ w.heap.size) (hm : n ≤ 1000000000) :
    Calls Tryz.prog 8 #[.slice A n c] w fun e w' => (∃ (A' : Option Addr) (c' : Nat), e = .returned (.slice A' n c') ∧ OwnX 75 11 w.heap.size w' A' n c' (l.map Ln.cells)) ∧ Below w.heap.size w w' := by
  obtain ⟨i0, hi0, hz0, hz1, hz2⟩ := info_parts rl_infoS
  have HN := Lib.hid hn
  have HR := Lib.hid (fun W (h : Below w.heap.size w W) => hr.keep (W' := W) h hB)
  clear hn hr
  go_enter Tryz.func8, Tryz.ntmps8
  go_wp2_with fail
  go_loopw [3, 8] (fun u i wr => ∃ (k : Nat) (A3 : Option Addr) (c3 : Nat), k ≤ n ∧ i = .int .i64 k ∧ u = .slice A3 k c3 ∧ OwnX 75 11 w.heap.size wr A3 k c3 ((l.take k).map Ln.cells) ∧ Below w.heap.size w wr) (fun _ i _ => n - (intOf i).toNat)
  case atStart => exact ⟨0, none, 0, Nat.zero_le _, rfl, rfl, OwnX.nil _ _ _ _, Below.refl _ _⟩
  case round =>
    obtain ⟨k, A3, c3, hk, rfl, rfl, hO, hW⟩ := hrel
    by_cases hlt : k < n
    · obtain ⟨x, hx⟩ : ∃ x, l[k]? = some x := ⟨_, List.getElem?_eq_getElem (show k < l.length by have := HN.out; omega)⟩
      obtain ⟨ad, rfl, _, hc⟩ := HR.out wr hW k _ (map_getS hx)
      have i1 : (0 : Int) ≤ (k : Int) := by omega
      have i2 : (k : Int) < (n : Int) := by omega
      have HL : Hid ((l.take (k + 1)).map Ln.cells = (l.take k).map Ln.cells ++ [x.cells]) := by
        show _ = _
        rw [List.take_add_one, hx, List.map_append]
        rfl
      clear hx
      have q0 : wr.cell? (ad.add (k * 11)) = some (.int .i64 x.pl) := (celX hc).1 _ rfl
      have q1 : wr.cell? ⟨(ad.add (k * 11)).block, (ad.add (k * 11)).off + 1, none⟩ = some (.int .i64 x.w.dev) := (celX hc).2 0 _ rfl
      have q2 : wr.cell? ⟨(ad.add (k * 11)).block, (ad.add (k * 11)).off + 2, none⟩ = some (.int .i64 x.w.seq) := (celX hc).2 1 _ rfl
      have q3 : wr.cell? ⟨(ad.add (k * 11)).block, (ad.add (k * 11)).off + 3, none⟩ = some (.int .i64 x.w.K) := (celX hc).2 2 _ rfl
      have q4 : wr.cell? ⟨(ad.add (k * 11)).block, (ad.add (k * 11)).off + 4, none⟩ = some (.string x.w.ky) := (celX hc).2 3 _ rfl
      have q5 : wr.cell? ⟨(ad.add (k * 11)).block, (ad.add (k * 11)).off + 5, none⟩ = some (.int .i64 x.w.ka) := (celX hc).2 4 _ rfl
      have q6 : wr.cell? ⟨(ad.add (k * 11)).block, (ad.add (k * 11)).off + 6, none⟩ = some (.int .i64 x.w.na) := (celX hc).2 5 _ rfl
      have q7 : wr.cell? ⟨(ad.add (k * 11)).block, (ad.add (k * 11)).off + 7, none⟩ = some (.string x.w.sa) := (celX hc).2 6 _ rfl
      have q8 : wr.cell? ⟨(ad.add (k * 11)).block, (ad.add (k * 11)).off + 8, none⟩ = some (.int .i64 x.w.kb) := (celX hc).2 7 _ rfl
      have q9 : wr.cell? ⟨(ad.add (k * 11)).block, (ad.add (k * 11)).off + 9, none⟩ = some (.int .i64 x.w.nb) := (celX hc).2 8 _ rfl
      have q10 : wr.cell? ⟨(ad.add (k * 11)).block, (ad.add (k * 11)).off + 10, none⟩ = some (.string x.w.sb) := (celX hc).2 9 _ rfl
      clear hc
      go_upto_region 5 with fail
      have hX := blk_new wr x.cells 49
      have hW1 := ba hW (.cells x.cells 49)
      have hO1 := hO.keep (b0 wr (.cells x.cells 49))
      clear q0 q1 q2 q3 q4 q5 q6 q7 q8 q9 q10 hO hW
      generalize wr.alloc (.cells x.cells 49) = W1 at hX hW1 hO1 ⊢
      generalize wr.heap.size = bx at hX ⊢
      have c0 := hX.cell 0
      have c1 := hX.cell 1
      have c2 := hX.cell 2
      have c3 := hX.cell 3
      have c4 := hX.cell 4
      have c5 := hX.cell 5
      have c6 := hX.cell 6
      have c7 := hX.cell 7
      have c8 := hX.cell 8
      have c9 := hX.cell 9
      have c10 := hX.cell 10
      have hxx := newX W1 x.cells 75
      have hO2 := hO1.keep (b0 W1 (.cells x.cells 75))
      have hW2 := ba hW1 (.cells x.cells 75)
      have hz := hW2.size
      have hkb : k ≤ 1000000000 := by omega
      clear hO1 hW1
      go_wp2_with (at_builtin; refine wpList_apX (el := 75) (base := w.heap.size) (n := k) (l := (l.take k).map Ln.cells) (xx := x.cells) (by rfl) _ _ (by rfl) Tryz.underlying26 Tryz.underlying26 hi0 hz0 hz1 hz2 (by rfl) (by omega) (by omega) (by rfl) (by rfl) hO2 (by rfl) (ln_one x) hxx hkb hz ?_; intro A5 c5 w5 hO5 hb5)
      rw [← HL.out] at hO5
      go_roundw
      case rel => exact ⟨k + 1, A5, c5, by omega, by go_num, rfl, hO5, hW2.trans hb5⟩
      case measure => simp [intOf]; omega
    · have hq : ¬ (k : Int) < (n : Int) := by omega
      have hkn : k = n := by omega
      subst hkn
      have e : (l.take k).map Ln.cells = l.map Ln.cells := by rw [List.take_of_length_le (by have := HN.out; omega)]
      rw [e] at hO
      clear e
      go_wp2_with fail
      go_ret
      exact ⟨⟨A3, c3, rfl, hO⟩, hW⟩
end Go.Proofs.YtpjleeeligahaaaGreatDoor

namespace Go.Proofs.YtpjleeeligahaaaGreatDoor
open Go.RowKit Go.Extern.Stop Go.Stop Go.Extern

/-! Closed facts on the library's entries, at this program's types. -/
theorem eTypeOfS (v : Value) (w : World) : (Extern.ReflectliteType.typeOf #[.iface 258 v]).run Tryz.prog w = .ok (.iface 215 (.agg #[.pointer (some ⟨3, 258, none⟩)])) w := by kernel_rfl
/-- The model's entry of (rtype).Comparable, as it is found. -/
noncomputable def eCmp : Array Value → Sem Value := (Go.Extern.find Tryz.f216).getD fun _ => pure .nilIface
theorem eComparableS (w : World) : (eCmp #[.agg #[.pointer (some ⟨3, 258, none⟩)]]).run Tryz.prog w = .ok (.bool true) w := by kernel_rfl
theorem eMComparable (v : Value) (w : World) : (Go.method 388 215 v "Comparable").run Tryz.prog w = .ok (216, v) w := by kernel_rfl
theorem eComp : (Tryz.prog.info? 258).map (·.comparable) = some true := by kernel_rfl
theorem eSize : (Tryz.prog.info? 276).map (·.size) = some 1 := by kernel_rfl
theorem eNoIs (v : Value) (xT : TypeId) (w : World) : (Instr.typeAssert (.iface 96 v) xT 217 true).run Tryz.prog w = .ok (.tuple #[.nilIface, .bool false]) w := run_typeAssert_lacksB Tryz.underlying217 (by kernel_rfl) (by kernel_rfl) v xT w
theorem eNoUnwrap (v : Value) (xT : TypeId) (w : World) : (Instr.typeAssert (.iface 96 v) xT 220 true).run Tryz.prog w = .ok (.tuple #[.nilIface, .bool false]) w := run_typeAssert_lacksB Tryz.underlying220 (by kernel_rfl) (by kernel_rfl) v xT w
theorem eNoUnwraps (v : Value) (xT : TypeId) (w : World) : (Instr.typeAssert (.iface 96 v) xT 222 true).run Tryz.prog w = .ok (.tuple #[.nilIface, .bool false]) w := run_typeAssert_lacksB Tryz.underlying222 (by kernel_rfl) (by kernel_rfl) v xT w

/-- errors.Is(nil, the sentinel). -/
theorem is_nil (b : Addr) (w : World) :
    Calls Tryz.prog 80 #[.nilIface, .iface 258 (.pointer (some b))] w fun e w' => e = .returned (.bool false) ∧ w' = w := by
  have hn := run_eql_iface_nil_left (P := Tryz.prog) w 258 (.pointer (some b)) Tryz.underlying82
  go_enter Tryz.func80, Tryz.ntmps80
  go_wp2
  go_ret
  exact ⟨rfl, rfl⟩
/-- errors.Is(the sentinel, itself). -/
theorem is_same (a : Addr) (w : World) :
    Calls Tryz.prog 80 #[.iface 258 (.pointer (some a)), .iface 258 (.pointer (some a))] w fun e w' => e = .returned (.bool true) ∧ w' = w := by
  obtain ⟨i, hi, hcmp⟩ := Option.map_eq_some_iff.1 eComp
  obtain ⟨j, hj, hjs⟩ := Option.map_eq_some_iff.1 eSize
  have h8 := @run_callFunc_extern Tryz.prog 122 _ Extern.ReflectliteType.typeOf Tryz.func122 (by kernel_rfl) (by kernel_rfl) (by kernel_rfl) (by kernel_rfl)
  have h32 := @run_callFunc_extern Tryz.prog 216 _ eCmp Tryz.func216 (by kernel_rfl) (by kernel_rfl) (by kernel_rfl) (by kernel_rfl)
  have tT := eTypeOfS
  have cT := eComparableS
  have mR := eMComparable
  have heq := run_eql_iface_ptr_same (P := Tryz.prog) w a Tryz.underlying82 Tryz.underlying258 hi hcmp hj
  go_enter Tryz.func80, Tryz.ntmps80
  go_wp2
  refine wp_loop_rounds 1 ?_
  rw [rounds_succ]
  go_wp2
  go_ret
  exact ⟨rfl, rfl⟩
/-- errors.Is(an error of the type 'wrong', the sentinel). -/
theorem is_wrong (v : Value) (b : Addr) (w : World) :
    Calls Tryz.prog 80 #[.iface 96 v, .iface 258 (.pointer (some b))] w fun e w' => e = .returned (.bool false) ∧ w' = w := by
  have h8 := @run_callFunc_extern Tryz.prog 122 _ Extern.ReflectliteType.typeOf Tryz.func122 (by kernel_rfl) (by kernel_rfl) (by kernel_rfl) (by kernel_rfl)
  have h32 := @run_callFunc_extern Tryz.prog 216 _ eCmp Tryz.func216 (by kernel_rfl) (by kernel_rfl) (by kernel_rfl) (by kernel_rfl)
  have tT := eTypeOfS
  have cT := eComparableS
  have mR := eMComparable
  have nI := eNoIs
  have nU := eNoUnwrap
  have nV := eNoUnwraps
  have heq := run_eql_iface_types (P := Tryz.prog) 96 258 v (.pointer (some b)) Tryz.underlying82 (by decide) w
  go_enter Tryz.func80, Tryz.ntmps80
  go_wp2
  refine wp_loop_rounds 1 ?_
  rw [rounds_succ]
  go_wp2
  go_ret
  exact ⟨rfl, rfl⟩
/-- errors.As(nil, ..). -/
theorem as_nil (t : Value) (w : World) :
    Calls Tryz.prog 81 #[.nilIface, t] w fun e w' => e = .returned (.bool false) ∧ w' = w := by
  go_enter Tryz.func81, Tryz.ntmps81
  go_wp2
  go_ret
  exact ⟨rfl, rfl⟩
end Go.Proofs.YtpjleeeligahaaaGreatDoor
