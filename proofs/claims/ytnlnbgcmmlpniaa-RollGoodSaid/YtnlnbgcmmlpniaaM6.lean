/-
  WHAT IS PROVED: package pack's reader: Value: what it answers and leaves, as the chapter says. Conditions: those typed in each theorem. · plain facts: the steps by which package pack's reader takes a write come to what the chapter says is taken. No program is spoken of. · package pack's reader: Write: what it answers and leaves, as the chapter says. Conditions: those typed in each theorem. · package roll's calls that take lists from a reader (takeList, sound of each kind of element): what they answer, and leave of what the reader has. Conditions: those typed in each theorem. · reach.least answers a row of its own of what is left of any list (leastOf). Conditions: those typed in the theorem. · plain facts on the texts of reaches: prefixes with a comma between. No program. No condition. · nothing; as a definition, what the code of these statements reads of the package variables: nothing. · plain facts (what is made of prefixes exists; the chapter's examples), and, as definitions, what the walks of layer 4's statements take of package reach's calls. The definitions are proved elsewhere, of the code itself. · slices.Equal of two slices of strings; reach.Good tells whether a list is a reach (GoodC); reach.Of makes the reach of any prefixes, or tells what is wrong (OfC). Conditions: those typed in each definition. · package roll's TakeReach, TakeCells, TakeLines: what they answer, and leave of what the reader has, as the chapter says. Conditions: those typed in each theorem. · package roll's GoodLasts tells whether lasts are good, and its TakeLasts takes them from a reader, as the chapter says. Conditions: those typed in each theorem.
-/
import Derived.Test.YtnlnbgcmmlpniaaM3
import Derived.Test.YtnlnbgcmmlpniaaM5
import Derived.Test.YtnlnbgcmmlpniaaM4
import Derived.Test.YtnlnbgcmmlpniaaM0
import Derived.Test.YtnlnbgcmmlpniaaRGood
namespace Go.Proofs.Ytnlnbgcmmlpniaa
open Go.RowKit

theorem below3_at {B b : Nat} {w W : World} (h : Below B w W) (hb : B ≤ b) (v0 v1 v2 : Value) : Below B w (((W.setCell ⟨b, 0, none⟩ v0).setCell ⟨b, 1, none⟩ v1).setCell ⟨b, 2, none⟩ v2) :=
  ((h.setCell (p := ⟨b, 0, none⟩) hb v0).setCell (p := ⟨b, 1, none⟩) hb v1).setCell (p := ⟨b, 2, none⟩) hb v2

theorem getM (st : Rest) (k x : Int) (l : List UInt8) (s : ByteArray) (hs : s.data.toList = l) :
    ∃ s2 : ByteArray, soundM (.agg #[.int .i64 0, .int .i64 0, .string ⟨#[]⟩]) st (.agg #[.int .i64 k, .int .i64 x, .string s]) = Value.agg #[.int .i64 (soundM valZ st (k, x, l)).1, .int .i64 (soundM valZ st (k, x, l)).2.1, .string s2] ∧ s2.data.toList = (soundM valZ st (k, x, l)).2.2 := by
  cases st with
  | none => exact ⟨⟨#[]⟩, rfl, rfl⟩
  | some b => exact ⟨s, rfl, hs⟩
theorem grown_set {w W : World} {g b i : Nat} {v : Value} (h : w.grownBy W (some g)) (hb : w.heap.size ≤ b) : w.grownBy (W.setCell ⟨b, i, none⟩ v) (some g) :=
  h.andThen (set_grown (g := b)) (fun j e => by injection e with e; exact .inl (by omega))
theorem textOf_most (st : Rest) (most : Nat) : (textOf st most).1.length ≤ most := by
  rw [← text_is]
  exact Nat.le_trans (takeM_len _ _) (numOf_lt st most).1
theorem good_one (x : Int) : goodB 1 x ⟨#[]⟩ = true := by
  unfold goodB
  simp
  rfl
theorem good_two (s : ByteArray) (h : s.size ≤ 40) : goodB 2 0 s = true := by
  unfold goodB
  simp [h]
theorem good_nat (k : Nat) (h1 : ¬ k = 1) (h2 : ¬ k = 2) : goodB (k : Int) 0 ⟨#[]⟩ = decide (k = 0) := by
  have h1' : ¬ (k : Int) = 1 := by omega
  have h2' : ¬ (k : Int) = 2 := by omega
  unfold goodB
  rw [Bool.eq_iff_iff]
  simp [h1', h2']
  intro _
  rfl
end Go.Proofs.Ytnlnbgcmmlpniaa

namespace Go.Proofs.Ytnlnbgcmmlpniaa

/-- What a reader takes of a write behind its three numbers. -/
def wrX (d q kk : Nat) (st3 : Rest) : Wr := ⟨(d : Int), (q : Int), (kk : Int), ⟨(textOf st3 20).1.toArray⟩, (valOf (textOf st3 20).2).1.1, (valOf (textOf st3 20).2).1.2.1, ⟨(valOf (textOf st3 20).2).1.2.2.toArray⟩, (valOf (valOf (textOf st3 20).2).2).1.1, (valOf (valOf (textOf st3 20).2).2).1.2.1, ⟨(valOf (valOf (textOf st3 20).2).2).1.2.2.toArray⟩⟩
def wrS (d q kk : Nat) (st3 : Rest) : Rest := mustM (wrX d q kk st3).good (valOf (valOf (textOf st3 20).2).2).2
def wrC2 (d q kk : Nat) (st3 : Rest) : Wr × Rest := (soundM wrNo (wrS d q kk st3) (wrX d q kk st3), wrS d q kk st3)
def wrM (m : Nat) (st : Rest) : Wr × Rest := wrC2 (numOf st m).1 (numOf (numOf st m).2 m).1 (numOf (numOf (numOf st m).2 m).2 m).1 (numOf (numOf (numOf st m).2 m).2 m).2
theorem wrC_none (d q kk : Nat) : wrC2 d q kk none = (wrNo, none) := by
  have e : wrS d q kk none = none := mustM_none _
  unfold wrC2
  rw [e]
  rfl
theorem wrC_bad {d q kk : Nat} {st3 : Rest} (h : (wrX d q kk st3).good = false) : wrC2 d q kk st3 = (wrNo, none) := by
  have e : wrS d q kk st3 = none := by unfold wrS; rw [h]; rfl
  unfold wrC2
  rw [e]
  rfl
theorem wrC_big {d q kk : Nat} (st3 : Rest) (h : 1000 < d ∨ 1000 < q ∨ 1000 < kk) : wrC2 d q kk st3 = (wrNo, none) := by
  refine wrC_bad ?_
  cases hg : (wrX d q kk st3).good with
  | false => rfl
  | true =>
    have := good_in hg
    have h1 : (wrX d q kk st3).dev = (d : Int) := rfl
    have h2 : (wrX d q kk st3).seq = (q : Int) := rfl
    have h3 : (wrX d q kk st3).K = (kk : Int) := rfl
    rw [h1, h2, h3] at this
    omega
theorem wrM_less (st : Rest) : wrM 9223372036854775807 st = wrM 1000 st := by
  have hM : (1000 : Nat) ≤ 9223372036854775807 := by omega
  unfold wrM
  have e1 := numOf_most st hM
  by_cases h1 : (numOf st 9223372036854775807).1 ≤ 1000
  · rw [if_pos h1] at e1
    rw [e1]
    generalize numOf st 9223372036854775807 = p1
    have e2 := numOf_most p1.2 hM
    by_cases h2 : (numOf p1.2 9223372036854775807).1 ≤ 1000
    · rw [if_pos h2] at e2
      rw [e2]
      generalize numOf p1.2 9223372036854775807 = p2
      have e3 := numOf_most p2.2 hM
      by_cases h3 : (numOf p2.2 9223372036854775807).1 ≤ 1000
      · rw [if_pos h3] at e3
        rw [e3]
      · rw [if_neg h3] at e3
        rw [e3, wrC_big _ (by omega)]
        exact (wrC_none _ _ _).symm
    · rw [if_neg h2] at e2
      rw [e2, wrC_big _ (by omega)]
      exact (wrC_none _ _ _).symm
  · rw [if_neg h1] at e1
    rw [e1, wrC_big _ (by omega)]
    exact (wrC_none _ _ _).symm

theorem numOf_at (l : List UInt8) (j : Nat) : numOf (some (l.drop (posW l j))) 1000 = if (numW l j).2 = 0 then (0, none) else ((numW l j).1, some (l.drop (posW l (j + 1)))) := by
  rw [posW_succ, ← List.drop_drop]
  rfl
theorem wr_is (st : Rest) : wrM 9223372036854775807 st = wrOf st := by
  rw [wrM_less]
  cases st with
  | none => exact wrC_none _ _ _
  | some l =>
    have hno : ¬ stdW l → wrOf (some l) = (wrNo, none) := fun h => by
      unfold wrOf
      dsimp only
      rw [takeWr_no h]
      rfl
    unfold wrM
    have e0 : numOf (some l) 1000 = if (numW l 0).2 = 0 then (0, none) else ((numW l 0).1, some (l.drop (posW l 1))) := numOf_at l 0
    by_cases h0 : (numW l 0).2 = 0
    · rw [if_pos h0] at e0
      rw [e0, hno (fun h => h.1 0 (by omega) h0)]
      exact wrC_none _ _ _
    rw [if_neg h0] at e0
    rw [e0]
    dsimp only
    have e1 : numOf (some (l.drop (posW l 1))) 1000 = if (numW l 1).2 = 0 then (0, none) else ((numW l 1).1, some (l.drop (posW l 2))) := numOf_at l 1
    by_cases h1 : (numW l 1).2 = 0
    · rw [if_pos h1] at e1
      rw [e1, hno (fun h => h.1 1 (by omega) h1)]
      exact wrC_none _ _ _
    rw [if_neg h1] at e1
    rw [e1]
    dsimp only
    have e2 : numOf (some (l.drop (posW l 2))) 1000 = if (numW l 2).2 = 0 then (0, none) else ((numW l 2).1, some (l.drop (posW l 3))) := numOf_at l 2
    by_cases h2 : (numW l 2).2 = 0
    · rw [if_pos h2] at e2
      rw [e2, hno (fun h => h.1 2 (by omega) h2)]
      exact wrC_none _ _ _
    rw [if_neg h2] at e2
    rw [e2]
    dsimp only
    have e3 : textOf (some (l.drop (posW l 3))) 20 = if (textW l).2 = 0 then ([], none) else ((textW l).1, some (l.drop (posW l 3 + (textW l).2))) := by
      rw [← List.drop_drop]
      rfl
    have e4 : valOf (some (l.drop (posW l 3 + (textW l).2))) = if (val1W l).2 = 0 then (valZ, none) else ((val1W l).1, some (l.drop (posW l 3 + (textW l).2 + (val1W l).2))) := by
      rw [show l.drop (posW l 3 + (textW l).2 + (val1W l).2) = (l.drop (posW l 3 + (textW l).2)).drop (val1W l).2 from List.drop_drop.symm]
      rfl
    have e5 : valOf (some (l.drop (posW l 3 + (textW l).2 + (val1W l).2))) = if (val2W l).2 = 0 then (valZ, none) else ((val2W l).1, some (l.drop (posW l 3 + (textW l).2 + (val1W l).2 + (val2W l).2))) := by
      rw [show l.drop (posW l 3 + (textW l).2 + (val1W l).2 + (val2W l).2) = (l.drop (posW l 3 + (textW l).2 + (val1W l).2)).drop (val2W l).2 from List.drop_drop.symm]
      rfl
    have hz : valOf none = (valZ, none) := rfl
    by_cases h3 : (textW l).2 = 0
    · rw [if_pos h3] at e3
      rw [hno (fun h => h.2.1 h3)]
      unfold wrC2 wrS
      rw [e3]
      dsimp only
      rw [hz]
      dsimp only
      rw [hz, mustM_none]
      rfl
    rw [if_neg h3] at e3
    by_cases h4 : (val1W l).2 = 0
    · rw [if_pos h4] at e4
      rw [hno (fun h => h.2.2.1 h4)]
      unfold wrC2 wrS
      rw [e3]
      dsimp only
      rw [e4]
      dsimp only
      rw [hz, mustM_none]
      rfl
    rw [if_neg h4] at e4
    by_cases h5 : (val2W l).2 = 0
    · rw [if_pos h5] at e5
      rw [hno (fun h => h.2.2.2.1 h5)]
      unfold wrC2 wrS
      rw [e3]
      dsimp only
      rw [e4]
      dsimp only
      rw [e5, mustM_none]
      rfl
    rw [if_neg h5] at e5
    have ex : wrX (numW l 0).1 (numW l 1).1 (numW l 2).1 (some (l.drop (posW l 3))) = gotW l := by
      simp only [wrX, e3, e4, e5, gotW]
    have es : wrS (numW l 0).1 (numW l 1).1 (numW l 2).1 (some (l.drop (posW l 3))) = mustM (gotW l).good (some (l.drop (posW l 3 + (textW l).2 + (val1W l).2 + (val2W l).2))) := by
      unfold wrS
      rw [ex, e3]
      dsimp only
      rw [e4]
      dsimp only
      rw [e5]
    unfold wrC2
    rw [ex, es]
    cases hg : (gotW l).good with
    | false =>
      rw [hno (fun h => by have h9 := h.2.2.2.2; rw [hg] at h9; cases h9)]
      rfl
    | true =>
      have hstd : stdW l := ⟨fun m hm => by
        have : m = 0 ∨ m = 1 ∨ m = 2 := by omega
        rcases this with rfl | rfl | rfl
        · exact h0
        · exact h1
        · exact h2, h3, h4, h5, hg⟩
      unfold wrOf
      dsimp only
      rw [takeWr_yes hstd]
      have hpos : ¬ posW l 3 + (textW l).2 + (val1W l).2 + (val2W l).2 = 0 := by omega
      rw [if_neg hpos]
      rfl

theorem int_fits (st : Rest) : -9223372036854775808 ≤ (intOfR st).1 ∧ (intOfR st).1 ≤ 9223372036854775807 := by
  cases st with
  | none => exact ⟨by show (-9223372036854775808 : Int) ≤ 0; omega, by show (0 : Int) ≤ 9223372036854775807; omega⟩
  | some b =>
    unfold intOfR takeIntB
    dsimp only
    by_cases h : (takeNum b 18446744073709551615).2 = 0
    · rw [if_pos h]
      exact ⟨by show (-9223372036854775808 : Int) ≤ 0; omega, by show (0 : Int) ≤ 9223372036854775807; omega⟩
    · rw [if_neg h]
      exact unzig_in (num_take (show takeNum b 18446744073709551615 = ((takeNum b 18446744073709551615).1, (takeNum b 18446744073709551615).2) from rfl) h).2.1
theorem val_fits (st : Rest) : (-9223372036854775808 ≤ (valOf st).1.2.1 ∧ (valOf st).1.2.1 ≤ 9223372036854775807) ∧ (valOf st).1.2.2.length ≤ 40 := by
  have hz : ((-9223372036854775808 : Int) ≤ valZ.2.1 ∧ valZ.2.1 ≤ 9223372036854775807) ∧ valZ.2.2.length ≤ 40 := ⟨⟨by show (-9223372036854775808 : Int) ≤ 0; omega, by show (0 : Int) ≤ 9223372036854775807; omega⟩, Nat.zero_le _⟩
  have hs : ∀ (st : Rest) (v : Int × Int × List UInt8), ((-9223372036854775808 ≤ v.2.1 ∧ v.2.1 ≤ 9223372036854775807) ∧ v.2.2.length ≤ 40) → ((-9223372036854775808 ≤ (soundM valZ st v).2.1 ∧ (soundM valZ st v).2.1 ≤ 9223372036854775807) ∧ (soundM valZ st v).2.2.length ≤ 40) := by
    intro st v hv
    cases st with
    | none => exact hz
    | some b => exact hv
  rw [← val_is]
  unfold valM
  split
  · exact hs _ _ ⟨int_fits _, Nat.zero_le _⟩
  · split
    · exact hs _ _ ⟨⟨by show (-9223372036854775808 : Int) ≤ 0; omega, by show (0 : Int) ≤ 9223372036854775807; omega⟩, by rw [← text_is]; exact Nat.le_trans (takeM_len _ _) (numOf_lt _ 40).1⟩
    · exact hz
end Go.Proofs.Ytnlnbgcmmlpniaa

namespace Go.Proofs.Ytnlnbgcmmlpniaa
open Go.RowKit

theorem grown10 {w W : World} {g b : Nat} (h : w.grownBy W (some g)) (hb : w.heap.size ≤ b) (v0 v1 v2 v3 v4 v5 v6 v7 v8 v9 : Value) : w.grownBy ((((((((((W.setCell ⟨b, 0, none⟩ v0).setCell ⟨b, 1, none⟩ v1).setCell ⟨b, 2, none⟩ v2).setCell ⟨b, 3, none⟩ v3).setCell ⟨b, 4, none⟩ v4).setCell ⟨b, 5, none⟩ v5).setCell ⟨b, 6, none⟩ v6).setCell ⟨b, 7, none⟩ v7).setCell ⟨b, 8, none⟩ v8).setCell ⟨b, 9, none⟩ v9) (some g) :=
  grown_set (grown_set (grown_set (grown_set (grown_set (grown_set (grown_set (grown_set (grown_set (grown_set h hb) hb) hb) hb) hb) hb) hb) hb) hb) hb
theorem below10_at {B b : Nat} {w W : World} (h : Below B w W) (hb : B ≤ b) (v0 v1 v2 v3 v4 v5 v6 v7 v8 v9 : Value) : Below B w ((((((((((W.setCell ⟨b, 0, none⟩ v0).setCell ⟨b, 1, none⟩ v1).setCell ⟨b, 2, none⟩ v2).setCell ⟨b, 3, none⟩ v3).setCell ⟨b, 4, none⟩ v4).setCell ⟨b, 5, none⟩ v5).setCell ⟨b, 6, none⟩ v6).setCell ⟨b, 7, none⟩ v7).setCell ⟨b, 8, none⟩ v8).setCell ⟨b, 9, none⟩ v9) := below10 h hb v0 v1 v2 v3 v4 v5 v6 v7 v8 v9

end Go.Proofs.Ytnlnbgcmmlpniaa

namespace Go.Proofs.Ytnlnbgcmmlpniaa
open Go.RowKit

abbrev preC (x : List UInt8) : Array Value := #[.string ⟨x.toArray⟩]
abbrev preV (x : List UInt8) : Value := .string ⟨x.toArray⟩
abbrev preF (b : List UInt8) : List UInt8 × Nat := takeTextB b 20
abbrev preStep (st : Rest) : List UInt8 × Rest := textOf st 20
theorem pre_one (x : List UInt8) : ∀ u ∈ (preC x).toList, u.oneCell' = true := by
  intro u hu
  simp only [List.mem_cons, List.not_mem_nil, or_false] at hu
  rcases hu with rfl
  rfl
theorem cl_one (x : Cl) : ∀ u ∈ x.cells.toList, u.oneCell' = true := by
  intro u hu
  simp only [List.mem_cons, List.not_mem_nil, or_false] at hu
  rcases hu with rfl | rfl | rfl | rfl <;> rfl
theorem ln_one (x : Ln) : ∀ u ∈ x.cells.toList, u.oneCell' = true := by
  intro u hu
  simp only [List.mem_cons, List.not_mem_nil, or_false] at hu
  rcases hu with rfl | rfl | rfl | rfl | rfl | rfl | rfl | rfl | rfl | rfl | rfl <;> rfl
theorem cl_info : (Try.prog.info? 45).map (fun i => (i.zero, i.size, i.bytes)) = some (some (.agg (clI ⟨#[]⟩ 0 0 ⟨#[]⟩)), 4, 48) := by kernel_rfl
theorem ln_info : (Try.prog.info? 62).map (fun i => (i.zero, i.size, i.bytes)) = some (some (.agg (lnI 0 0 0 0 ⟨#[]⟩ 0 0 ⟨#[]⟩ 0 0 ⟨#[]⟩)), 11, 112) := by kernel_rfl
/-- A step leaves less. -/
def LessG {α : Type} (s : Rest → α × Rest) : Prop := ∀ b b', (s (some b)).2 = some b' → b'.length < b.length
theorem less_of {α : Type} {f : List UInt8 → α × Nat} {s : Rest → α × Rest} (h : StepG f s) (hf : ∀ b, (f b).2 ≤ b.length) : LessG s := by
  intro b b' hb
  by_cases h0 : (f b).2 = 0
  · rw [(h b).1 h0] at hb
    cases hb
  · rw [(h b).2 h0] at hb
    injection hb with hb
    have h1 := hf b
    rw [← hb, List.length_drop]
    omega
/-- How many there may be yet. -/
def roomG (k : Nat) : Rest → Prop
  | some b => k + b.length ≤ 1000000
  | none => k ≤ 1000001
theorem room_next {α : Type} {s : Rest → α × Rest} (h : LessG s) {k : Nat} {b : List UInt8} (hr : roomG k (some b)) {x : α} {st : Rest} (hs : s (some b) = (x, st)) : roomG (k + 1) st := by
  have hr' : k + b.length ≤ 1000000 := hr
  cases st with
  | none => show k + 1 ≤ 1000001; omega
  | some b' =>
    have := h b b' (by rw [hs])
    show k + 1 + b'.length ≤ 1000000
    omega
theorem room_le {k : Nat} {st : Rest} (h : roomG k st) : k ≤ 1000001 := by
  cases st with
  | none => exact h
  | some b =>
    have h' : k + b.length ≤ 1000000 := h
    omega
theorem numOf_short (st : Rest) (most : Nat) (b : List UInt8) (h : (numOf st most).2 = some b) : ∃ b0, st = some b0 ∧ b.length ≤ b0.length := by
  cases st with
  | none => cases h
  | some b0 =>
    refine ⟨b0, rfl, ?_⟩
    unfold numOf at h
    dsimp only at h
    split at h
    · cases h
    · injection h with h
      rw [← h, List.length_drop]
      omega
theorem grown_then' {w a b : World} {row : Option Nat} (h : w.grownBy a row) (k : Below w.heap.size a b) : w.grownBy b row :=
  ⟨k.os.trans h.os, k.tape.trans h.tape, k.output.trans h.output, Nat.le_trans h.size k.size, fun i hi hr => (k.block i hi).trans (h.block i hi hr)⟩
end Go.Proofs.Ytnlnbgcmmlpniaa

namespace Go.Proofs.Ytnlnbgcmmlpniaa
open Go.RowKit

theorem least_take {S : List (List UInt8)} {k : Nat} {x : List UInt8} (h : S[k]? = some x) : leastL (S.take (k + 1)) = leastStep (leastL (S.take k)) x := by
  obtain ⟨hk, rfl⟩ := List.getElem?_eq_some_iff.1 h
  rw [List.take_succ_eq_append_getElem hk, leastL_snoc]
theorem least_first {S : List (List UInt8)} {k : Nat} {x : List UInt8} {L : List ByteArray} (hL : dL L = leastL (S.take k)) (h : S[k]? = some x) (y : ByteArray) (hy : y.data.toList = x) (h0 : L = []) : dL (L ++ [y]) = leastL (S.take (k + 1)) := by
  rw [least_take h, ← hL, h0]
  simp [leastStep, hy]
theorem least_put {S : List (List UInt8)} {k : Nat} {x : List UInt8} {L : List ByteArray} (hL : dL L = leastL (S.take k)) (h : S[k]? = some x) (y : ByteArray) (hy : y.data.toList = x) {q : ByteArray} (hq : L[L.length - 1]? = some q) (hb : begB q.data.toList x = false) : dL (L ++ [y]) = leastL (S.take (k + 1)) := by
  rw [least_take h, ← hL]
  unfold leastStep
  rw [dL_len, dL_at hq, if_pos (Or.inr hb)]
  simp [hy]
theorem least_drop {S : List (List UInt8)} {k : Nat} {x : List UInt8} {L : List ByteArray} (hL : dL L = leastL (S.take k)) (h : S[k]? = some x) {q : ByteArray} (hq : L[L.length - 1]? = some q) (hb : begB q.data.toList x = true) : dL L = leastL (S.take (k + 1)) := by
  rw [least_take h, ← hL]
  unfold leastStep
  have h0 : dL L ≠ [] := by
    intro e
    have e2 : L = [] := List.map_eq_nil_iff.1 e
    rw [e2] at hq
    cases hq
  rw [dL_len, dL_at hq, if_neg (by simp [h0, hb])]
end Go.Proofs.Ytnlnbgcmmlpniaa

namespace Go.Proofs.Ytnlnbgcmmlpniaa
open Go

/-- The pieces between commas. -/
def commas : List UInt8 → List (List UInt8)
  | [] => [[]]
  | c :: t => if c = 44 then [] :: commas t else (c :: (commas t).headD []) :: (commas t).tail
theorem commas_ne : ∀ s : List UInt8, commas s ≠ []
  | [] => by simp [commas]
  | c :: t => by unfold commas; split <;> simp
theorem commas_cons_head (s : List UInt8) : commas s = (commas s).headD [] :: (commas s).tail := by
  cases h : commas s with
  | nil => exact absurd h (commas_ne s)
  | cons a r => rfl
/-- With one byte more. -/
def growL (r : List (List UInt8)) (c : UInt8) : List (List UInt8) := r.dropLast ++ [r.getLastD [] ++ [c]]
theorem commas_snoc : ∀ (s : List UInt8) (c : UInt8), commas (s ++ [c]) = if c = 44 then commas s ++ [[]] else growL (commas s) c
  | [], c => by
    by_cases h : c = 44
    · subst h; rfl
    · simp [commas, h, growL]
  | a :: t, c => by
    have ih := commas_snoc t c
    have hne := commas_ne t
    have hh := commas_cons_head t
    by_cases h : c = 44
    · subst h
      rw [if_pos rfl] at ih ⊢
      show commas (a :: (t ++ [44])) = commas (a :: t) ++ [[]]
      by_cases ha : a = 44
      · simp only [commas, ha, if_true, ih]; rfl
      · simp only [commas, ha, if_false, ih]
        generalize commas t = L at hne hh ⊢
        cases L with
        | nil => exact absurd rfl hne
        | cons x xs => rfl
    · rw [if_neg h] at ih ⊢
      show commas (a :: (t ++ [c])) = growL (commas (a :: t)) c
      by_cases ha : a = 44
      · simp only [commas, ha, if_true, ih]
        generalize commas t = L at hne hh ⊢
        cases L with
        | nil => exact absurd rfl hne
        | cons x xs => simp [growL, List.dropLast, List.getLastD]
      · simp only [commas, ha, if_false, ih]
        generalize commas t = L at hne hh ⊢
        cases L with
        | nil => exact absurd rfl hne
        | cons x xs =>
          cases xs with
          | nil => simp [growL]
          | cons y ys => simp [growL, List.dropLast, List.getLastD]

/-- With a comma between. -/
def joinC : List (List UInt8) → List UInt8
  | [] => []
  | [a] => a
  | a :: b :: r => a ++ 44 :: joinC (b :: r)
theorem joinC_snoc : ∀ (r : List (List UInt8)) (x : List UInt8), joinC (r ++ [x]) = if r = [] then x else joinC r ++ 44 :: x
  | [], x => rfl
  | [a], x => rfl
  | a :: b :: r, x => by
    have ih := joinC_snoc (b :: r) x
    rw [if_neg (by simp)] at ih ⊢
    show a ++ 44 :: joinC ((b :: r) ++ [x]) = a ++ 44 :: joinC (b :: r) ++ 44 :: x
    rw [ih, List.append_assoc]
    rfl
theorem joinC_commas : ∀ s : List UInt8, joinC (commas s) = s
  | [] => rfl
  | c :: t => by
    have ih := joinC_commas t
    have hh := commas_cons_head t
    by_cases h : c = 44
    · subst h
      show joinC ([] :: commas t) = _
      rw [hh] at ih ⊢
      show [] ++ 44 :: joinC ((commas t).headD [] :: (commas t).tail) = _
      rw [ih]
      rfl
    · simp only [commas, h, if_false]
      generalize commas t = L at hh ih ⊢
      cases L with
      | nil => exact absurd hh (by simp)
      | cons x xs =>
        cases xs with
        | nil => rw [← ih]; rfl
        | cons y ys => rw [← ih]; rfl
theorem commas_plain : ∀ (a : List UInt8), (∀ c, c ∈ a → c ≠ 44) → commas a = [a]
  | [], _ => rfl
  | c :: t, h => by
    have h1 := h c List.mem_cons_self
    have ih := commas_plain t fun x hx => h x (List.mem_cons_of_mem _ hx)
    simp [commas, h1, ih]
theorem commas_app : ∀ (a t : List UInt8), (∀ c, c ∈ a → c ≠ 44) → commas (a ++ 44 :: t) = a :: commas t
  | [], t, _ => by simp [commas]
  | c :: a, t, h => by
    have h1 := h c List.mem_cons_self
    have ih := commas_app a t fun x hx => h x (List.mem_cons_of_mem _ hx)
    show commas (c :: (a ++ 44 :: t)) = _
    simp [commas, h1, ih]
theorem commas_joinC : ∀ r : List (List UInt8), r ≠ [] → (∀ x, x ∈ r → ∀ c, c ∈ x → c ≠ 44) → commas (joinC r) = r
  | [], h, _ => absurd rfl h
  | [a], _, h => commas_plain a (h a List.mem_cons_self)
  | a :: b :: r, _, h => by
    show commas (a ++ 44 :: joinC (b :: r)) = _
    rw [commas_app _ _ (h a List.mem_cons_self), commas_joinC (b :: r) (by simp) fun x hx => h x (List.mem_cons_of_mem _ hx)]

/-- A reach's text. -/
def textR (r : List (List UInt8)) : List UInt8 := if r = [] then [33] else if joinC r = [] then [42] else joinC r
/-- A text's reach. -/
def readR (s : List UInt8) : Option (List (List UInt8)) :=
  if s = [33] then some [] else if s = [42] then some [[]] else if goodR (commas s) = true ∧ atR (commas s) 0 ≠ [] then some (commas s) else none

theorem keyB_no44 {x : List UInt8} (h : keyB x = true) : ∀ c, c ∈ x → c ≠ 44 ∧ c ≠ 33 ∧ c ≠ 42 := by
  intro c hc
  have hk : keyC c = true := List.all_eq_true.1 (keyB_all h).1 c hc
  refine ⟨?_, ?_, ?_⟩
  all_goals
    rintro rfl
    revert hk
    decide
theorem preB_no44 {x : List UInt8} (h : preB x = true) : ∀ c, c ∈ x → c ≠ 44 := by
  intro c hc
  unfold preB at h
  rw [Bool.or_eq_true] at h
  rcases h with h | h
  · rw [List.isEmpty_iff] at h
    rw [h] at hc
    cases hc
  · exact (keyB_no44 h c hc).1
/-- A reach in which the empty text is. -/
theorem goodR_empty {r : List (List UInt8)} (h : goodR r = true) (he : [] ∈ r) : r = [[]] := by
  have ha : ∀ x, x ∈ r → x = [] := fun x hx => (goodR_mem h hx he rfl).symm
  have hr := goodR_rises h
  match r, he, ha, hr with
  | [a], _, ha, _ => rw [ha a (by simp)]
  | a :: b :: t, _, ha, hr =>
    have h1 := (List.pairwise_cons.1 hr).1 b (by simp)
    rw [ha a (by simp), ha b (by simp), ltB_irrefl] at h1
    cases h1
theorem read_text {r : List (List UInt8)} (h : goodR r = true) : readR (textR r) = some r := by
  unfold textR
  by_cases h0 : r = []
  · subst h0; rfl
  · rw [if_neg h0]
    have hs := commas_joinC r h0 fun x hx => preB_no44 (goodR_pre h hx)
    by_cases h1 : joinC r = []
    · rw [if_pos h1]
      rw [h1] at hs
      rw [← hs]
      rfl
    · rw [if_neg h1]
      have hne : [] ∉ r := by
        intro he
        rw [goodR_empty h he] at h1
        exact h1 rfl
      have hkey : ∀ x, x ∈ r → keyB x = true := by
        intro x hx
        have hp := goodR_pre h hx
        unfold preB at hp
        rw [Bool.or_eq_true] at hp
        rcases hp with e | e
        · rw [List.isEmpty_iff] at e
          exact absurd (e ▸ hx) hne
        · exact e
      unfold readR
      rw [if_neg, if_neg, if_pos, hs]
      · rw [hs]
        refine ⟨h, ?_⟩
        cases r with
        | nil => exact absurd rfl h0
        | cons a t => exact fun e => hne (by rw [← e]; exact List.mem_cons_self)
      · intro e
        rw [e] at hs
        have hb : [42] ∈ r := by rw [← hs]; exact List.mem_cons_self
        exact (keyB_no44 (hkey _ hb) 42 (by simp)).2.2 rfl
      · intro e
        rw [e] at hs
        have hb : [33] ∈ r := by rw [← hs]; exact List.mem_cons_self
        exact (keyB_no44 (hkey _ hb) 33 (by simp)).2.1 rfl
theorem text_read {s : List UInt8} {r : List (List UInt8)} (h : readR s = some r) : textR r = s ∧ goodR r = true := by
  unfold readR at h
  by_cases h1 : s = [33]
  · rw [if_pos h1] at h
    injection h with h
    subst h
    rw [h1]
    exact ⟨rfl, rfl⟩
  · rw [if_neg h1] at h
    by_cases h2 : s = [42]
    · rw [if_pos h2] at h
      injection h with h
      subst h
      rw [h2]
      exact ⟨rfl, by decide⟩
    · rw [if_neg h2] at h
      by_cases h3 : goodR (commas s) = true ∧ atR (commas s) 0 ≠ []
      · rw [if_pos h3] at h
        injection h with h
        subst h
        refine ⟨?_, h3.1⟩
        unfold textR
        rw [if_neg (commas_ne s), joinC_commas, if_neg]
        rintro rfl
        exact h3.2 rfl
      · rw [if_neg h3] at h
        cases h
theorem growL_length (r : List (List UInt8)) (c : UInt8) (h : r ≠ []) : (growL r c).length = r.length := by
  unfold growL
  have := List.length_pos_iff.2 h
  simp
  omega
theorem commas_length (s : List UInt8) : 1 ≤ (commas s).length := List.length_pos_iff.2 (commas_ne s)
theorem commas_le : ∀ s : List UInt8, (commas s).length ≤ s.length + 1
  | [] => by simp [commas]
  | c :: t => by
    have ih := commas_le t
    unfold commas
    split
    · simp; omega
    · simp; omega
theorem joinC_le : ∀ r : List (List UInt8), (joinC r).length ≤ (r.map List.length).sum + r.length
  | [] => by simp [joinC]
  | [a] => by simp [joinC]
  | a :: b :: r => by
    have ih := joinC_le (b :: r)
    simp only [joinC, List.length_append, List.length_cons, List.map_cons, List.sum_cons] at ih ⊢
    omega
end Go.Proofs.Ytnlnbgcmmlpniaa

namespace Go.Proofs.Ytnlnbgcmmlpniaa
open Go.RowKit

/-- What the code reads of the package variables: nothing. -/
def LaidR (_ : World) : Prop := True
theorem LaidR.keep {W W' : World} (_ : LaidR W) (_ : Below W.heap.size W W') : LaidR W' := trivial
end Go.Proofs.Ytnlnbgcmmlpniaa

namespace Go.Proofs.Ytnlnbgcmmlpniaa
open Go.RowKit

theorem place_ex (r : List (List UInt8)) (x : List UInt8) : ∃ t, t ≤ r.length ∧ (∀ j, j < t → ltB (atR r j) x = true) ∧ (t < r.length → ltB (atR r t) x = false) := by
  have key : ∀ n, n ≤ r.length → (∀ j, j < n → ltB (atR r j) x = true) ∨ ∃ t, t < n ∧ (∀ j, j < t → ltB (atR r j) x = true) ∧ ltB (atR r t) x = false := by
    intro n
    induction n with
    | zero => intro _; exact Or.inl fun j hj => by omega
    | succ n ih =>
      intro hn
      rcases ih (by omega) with h | ⟨t, ht, h1, h2⟩
      · by_cases hb : ltB (atR r n) x = true
        · refine Or.inl fun j hj => ?_
          by_cases e : j = n
          · rw [e]; exact hb
          · exact h j (by omega)
        · exact Or.inr ⟨n, by omega, h, Bool.eq_false_iff.2 hb⟩
      · exact Or.inr ⟨t, by omega, h1, h2⟩
  rcases key r.length (Nat.le_refl _) with h | ⟨t, ht, h1, h2⟩
  · exact ⟨r.length, Nat.le_refl _, h, fun h => by omega⟩
  · exact ⟨t, by omega, h1, fun _ => h2⟩
theorem madeTo_ex (l : List (List UInt8)) : ∀ m, m ≤ l.length → ∃ r, MadeTo l m r
  | 0, _ => ⟨[], madeTo_zero l⟩
  | m + 1, h => by
    obtain ⟨r, hr⟩ := madeTo_ex l m (by omega)
    by_cases hb : loneB l m = true
    · obtain ⟨t, h1, h2, h3⟩ := place_ex r (atR l m)
      exact ⟨_, madeTo_put hr (by omega) hb h1 h2 h3⟩
    · exact ⟨r, madeTo_skip hr (Bool.eq_false_iff.2 hb)⟩
theorem made_ex (l : List (List UInt8)) : ∃ r, IsMade (· ∈ l) r := by
  obtain ⟨r, hr⟩ := madeTo_ex l l.length (Nat.le_refl _)
  exact ⟨r, madeTo_all hr⟩
/-- Out of a list of pairs' prefixes, too. -/
theorem both_ex (a b : List (List UInt8)) : ∃ r, IsMade (BothS a b) r := by
  obtain ⟨r, hr⟩ := made_ex ((b.filter fun x => hasB a x) ++ (a.filter fun x => hasB b x))
  refine ⟨r, made_congr hr fun x => ?_⟩
  unfold BothS
  rw [List.mem_append, List.mem_filter, List.mem_filter]

/-- The strings' sizes. -/
def Sz (m : Nat) (l : List ByteArray) : Prop := ∀ x, x ∈ l → x.size ≤ m
/-- A list that a call answered. -/
def Ans (R : List (List UInt8)) (code : Int) (e : Ending) (w' : World) : Prop :=
  ∃ (A : Option Addr) (c : Nat) (r : List ByteArray), e = .returned (.tuple #[.slice A R.length c, .int .i64 code]) ∧ RdS w'.heap.size w' A r ∧ dL r = R
def Ans1 (R : List (List UInt8)) (e : Ending) (w' : World) : Prop :=
  ∃ (A : Option Addr) (c : Nat) (r : List ByteArray), e = .returned (.slice A R.length c) ∧ RdS w'.heap.size w' A r ∧ dL r = R
theorem goodR_sizes {l : List ByteArray} (h : goodR (dL l) = true) : Sz 20 l := by
  intro x hx
  have hp := goodR_pre h (x := x.data.toList) (List.mem_map_of_mem hx)
  have hl : x.data.toList.length = x.size := Array.length_toList
  unfold preB at hp
  rw [Bool.or_eq_true] at hp
  rcases hp with e | e
  · rw [List.isEmpty_iff] at e
    rw [e] at hl
    simp at hl
    omega
  · have := (keyB_all e).2.2
    omega
theorem goodR_six {l : List ByteArray} (h : goodR (dL l) = true) : l.length ≤ 6 := by
  have := (goodR_iff.1 h).2
  rwa [dL_len] at this
theorem goodR_one (p : List UInt8) : goodR [p] = preB p := by
  rw [Bool.eq_iff_iff, goodR_iff]
  constructor
  · rintro ⟨h, _⟩
    exact (okAt_iff.1 (h 0 (by simp))).1
  · intro h
    refine ⟨fun i hi => ?_, by simp⟩
    have e : i = 0 := by simp at hi; omega
    subst e
    exact okAt_iff.2 ⟨h, Or.inl rfl, fun k hk hne => by simp at hk; omega⟩
end Go.Proofs.Ytnlnbgcmmlpniaa

namespace Go.Proofs.Ytnlnbgcmmlpniaa
open Go.RowKit

theorem rd_own {base : Nat} {W : World} {A : Option Addr} {n c : Nat} {l : List ByteArray} (h : OwnS base W A n c l) {W' : World} (hb : Below W.heap.size W W') : RdS W'.heap.size W' A l := (h.rd.keep hb (Nat.le_refl _)).more hb.size
/-- Each that is left was there. -/
theorem leastOf_sz {l r : List ByteArray} (h : dL r = leastOf (dL l)) {N : Nat} (hs : ∀ x, x ∈ l → x.size ≤ N) : ∀ x, x ∈ r → x.size ≤ N := by
  intro x hx
  have h1 : x.data.toList ∈ leastOf (dL l) := by rw [← h]; exact List.mem_map_of_mem hx
  have h2 := (((least_made (dL l)).2 _).1 h1).1
  obtain ⟨y, hy, e⟩ := List.mem_map.1 h2
  have e1 : x.data.toList.length = x.size := Array.length_toList
  have e2 : y.data.toList.length = y.size := Array.length_toList
  rw [← e1, ← e, e2]
  exact hs y hy
end Go.Proofs.Ytnlnbgcmmlpniaa

namespace Go.Proofs.Ytnlnbgcmmlpniaa
open Go.RowKit

theorem enters_gdC : ∀ args w, (callFunc 5 args).run Try.prog w = .ok (.enter 5 args) w := enters_of Try.func5 (by kernel_rfl) rfl
theorem enters_gdL : ∀ args w, (callFunc 9 args).run Try.prog w = .ok (.enter 9 args) w := enters_of Try.func9 (by kernel_rfl) rfl
theorem grown_cell {W W' : World} {g gb : Nat} {v : Value} (hc : W.cell? ⟨gb, 0, none⟩ = some v) (hg : W.grownBy W' (some g)) (hne : gb ≠ g) : W'.cell? ⟨gb, 0, none⟩ = some v :=
  hg.cell hc (by
    intro e
    injection e with e
    exact hne e)
theorem grown_row {W W' : World} {g b : Nat} {cs : Array Value} {t : TypeId} (h : Blk W b cs t) (hg : W.grownBy W' (some g)) (hne : b ≠ g) : Blk W' b cs t := blk_grown h hg (by
    intro e
    injection e with e
    exact hne e.symm)

theorem set11 {W : World} {b : Nat} {u0 u1 u2 u3 u4 u5 u6 u7 u8 u9 u10 : Value} {t : TypeId} (h : Blk W b #[u0, u1, u2, u3, u4, u5, u6, u7, u8, u9, u10] t) (v0 v1 v2 v3 v4 v5 v6 v7 v8 v9 v10 : Value) : Blk (((((((((((W.setCell ⟨b, 0, none⟩ v0).setCell ⟨b, 1, none⟩ v1).setCell ⟨b, 2, none⟩ v2).setCell ⟨b, 3, none⟩ v3).setCell ⟨b, 4, none⟩ v4).setCell ⟨b, 5, none⟩ v5).setCell ⟨b, 6, none⟩ v6).setCell ⟨b, 7, none⟩ v7).setCell ⟨b, 8, none⟩ v8).setCell ⟨b, 9, none⟩ v9).setCell ⟨b, 10, none⟩ v10) b #[v0, v1, v2, v3, v4, v5, v6, v7, v8, v9, v10] t := by
  have h0 : Blk (W.setCell ⟨b, 0, none⟩ v0) b #[v0, u1, u2, u3, u4, u5, u6, u7, u8, u9, u10] t := h.set 0 v0
  have h1 : Blk ((W.setCell ⟨b, 0, none⟩ v0).setCell ⟨b, 1, none⟩ v1) b #[v0, v1, u2, u3, u4, u5, u6, u7, u8, u9, u10] t := h0.set 1 v1
  have h2 : Blk (((W.setCell ⟨b, 0, none⟩ v0).setCell ⟨b, 1, none⟩ v1).setCell ⟨b, 2, none⟩ v2) b #[v0, v1, v2, u3, u4, u5, u6, u7, u8, u9, u10] t := h1.set 2 v2
  have h3 : Blk ((((W.setCell ⟨b, 0, none⟩ v0).setCell ⟨b, 1, none⟩ v1).setCell ⟨b, 2, none⟩ v2).setCell ⟨b, 3, none⟩ v3) b #[v0, v1, v2, v3, u4, u5, u6, u7, u8, u9, u10] t := h2.set 3 v3
  have h4 : Blk (((((W.setCell ⟨b, 0, none⟩ v0).setCell ⟨b, 1, none⟩ v1).setCell ⟨b, 2, none⟩ v2).setCell ⟨b, 3, none⟩ v3).setCell ⟨b, 4, none⟩ v4) b #[v0, v1, v2, v3, v4, u5, u6, u7, u8, u9, u10] t := h3.set 4 v4
  have h5 : Blk ((((((W.setCell ⟨b, 0, none⟩ v0).setCell ⟨b, 1, none⟩ v1).setCell ⟨b, 2, none⟩ v2).setCell ⟨b, 3, none⟩ v3).setCell ⟨b, 4, none⟩ v4).setCell ⟨b, 5, none⟩ v5) b #[v0, v1, v2, v3, v4, v5, u6, u7, u8, u9, u10] t := h4.set 5 v5
  have h6 : Blk (((((((W.setCell ⟨b, 0, none⟩ v0).setCell ⟨b, 1, none⟩ v1).setCell ⟨b, 2, none⟩ v2).setCell ⟨b, 3, none⟩ v3).setCell ⟨b, 4, none⟩ v4).setCell ⟨b, 5, none⟩ v5).setCell ⟨b, 6, none⟩ v6) b #[v0, v1, v2, v3, v4, v5, v6, u7, u8, u9, u10] t := h5.set 6 v6
  have h7 : Blk ((((((((W.setCell ⟨b, 0, none⟩ v0).setCell ⟨b, 1, none⟩ v1).setCell ⟨b, 2, none⟩ v2).setCell ⟨b, 3, none⟩ v3).setCell ⟨b, 4, none⟩ v4).setCell ⟨b, 5, none⟩ v5).setCell ⟨b, 6, none⟩ v6).setCell ⟨b, 7, none⟩ v7) b #[v0, v1, v2, v3, v4, v5, v6, v7, u8, u9, u10] t := h6.set 7 v7
  have h8 : Blk (((((((((W.setCell ⟨b, 0, none⟩ v0).setCell ⟨b, 1, none⟩ v1).setCell ⟨b, 2, none⟩ v2).setCell ⟨b, 3, none⟩ v3).setCell ⟨b, 4, none⟩ v4).setCell ⟨b, 5, none⟩ v5).setCell ⟨b, 6, none⟩ v6).setCell ⟨b, 7, none⟩ v7).setCell ⟨b, 8, none⟩ v8) b #[v0, v1, v2, v3, v4, v5, v6, v7, v8, u9, u10] t := h7.set 8 v8
  have h9 : Blk ((((((((((W.setCell ⟨b, 0, none⟩ v0).setCell ⟨b, 1, none⟩ v1).setCell ⟨b, 2, none⟩ v2).setCell ⟨b, 3, none⟩ v3).setCell ⟨b, 4, none⟩ v4).setCell ⟨b, 5, none⟩ v5).setCell ⟨b, 6, none⟩ v6).setCell ⟨b, 7, none⟩ v7).setCell ⟨b, 8, none⟩ v8).setCell ⟨b, 9, none⟩ v9) b #[v0, v1, v2, v3, v4, v5, v6, v7, v8, v9, u10] t := h8.set 9 v9
  have h10 : Blk (((((((((((W.setCell ⟨b, 0, none⟩ v0).setCell ⟨b, 1, none⟩ v1).setCell ⟨b, 2, none⟩ v2).setCell ⟨b, 3, none⟩ v3).setCell ⟨b, 4, none⟩ v4).setCell ⟨b, 5, none⟩ v5).setCell ⟨b, 6, none⟩ v6).setCell ⟨b, 7, none⟩ v7).setCell ⟨b, 8, none⟩ v8).setCell ⟨b, 9, none⟩ v9).setCell ⟨b, 10, none⟩ v10) b #[v0, v1, v2, v3, v4, v5, v6, v7, v8, v9, v10] t := h9.set 10 v10
  exact h10
theorem grown11 (W : World) (b : Nat) (v0 v1 v2 v3 v4 v5 v6 v7 v8 v9 v10 : Value) : W.grownBy (((((((((((W.setCell ⟨b, 0, none⟩ v0).setCell ⟨b, 1, none⟩ v1).setCell ⟨b, 2, none⟩ v2).setCell ⟨b, 3, none⟩ v3).setCell ⟨b, 4, none⟩ v4).setCell ⟨b, 5, none⟩ v5).setCell ⟨b, 6, none⟩ v6).setCell ⟨b, 7, none⟩ v7).setCell ⟨b, 8, none⟩ v8).setCell ⟨b, 9, none⟩ v9).setCell ⟨b, 10, none⟩ v10) (some b) := (((((((((((set_grown).trans set_grown).trans set_grown).trans set_grown).trans set_grown).trans set_grown).trans set_grown).trans set_grown).trans set_grown).trans set_grown).trans set_grown)
theorem below11 {B b : Nat} {w W : World} (h : Below B w W) (hb : B ≤ b) (v0 v1 v2 v3 v4 v5 v6 v7 v8 v9 v10 : Value) : Below B w (((((((((((W.setCell ⟨b, 0, none⟩ v0).setCell ⟨b, 1, none⟩ v1).setCell ⟨b, 2, none⟩ v2).setCell ⟨b, 3, none⟩ v3).setCell ⟨b, 4, none⟩ v4).setCell ⟨b, 5, none⟩ v5).setCell ⟨b, 6, none⟩ v6).setCell ⟨b, 7, none⟩ v7).setCell ⟨b, 8, none⟩ v8).setCell ⟨b, 9, none⟩ v9).setCell ⟨b, 10, none⟩ v10) := (((((((((((h.setCell (p := ⟨b, 0, none⟩) hb v0).setCell (p := ⟨b, 1, none⟩) hb v1).setCell (p := ⟨b, 2, none⟩) hb v2).setCell (p := ⟨b, 3, none⟩) hb v3).setCell (p := ⟨b, 4, none⟩) hb v4).setCell (p := ⟨b, 5, none⟩) hb v5).setCell (p := ⟨b, 6, none⟩) hb v6).setCell (p := ⟨b, 7, none⟩) hb v7).setCell (p := ⟨b, 8, none⟩) hb v8).setCell (p := ⟨b, 9, none⟩) hb v9).setCell (p := ⟨b, 10, none⟩) hb v10)

theorem wrNo_fits : Wr.fits wrNo := ⟨Nat.zero_le _, Nat.zero_le _, Nat.zero_le _, ⟨by show (-9223372036854775808 : Int) ≤ 0; omega, by show (0 : Int) ≤ 9223372036854775807; omega⟩, ⟨by show (-9223372036854775808 : Int) ≤ 0; omega, by show (0 : Int) ≤ 9223372036854775807; omega⟩⟩
theorem arr_fits {l : List UInt8} {n : Nat} (h : l.length ≤ n) (hn : n ≤ 1000) : (⟨l.toArray⟩ : ByteArray).size ≤ maxLen := by
  show l.toArray.size ≤ maxLen
  unfold maxLen
  simp
  omega
theorem wrX_fits (d q kk : Nat) (st3 : Rest) : (wrX d q kk st3).fits :=
  ⟨arr_fits (textOf_most st3 20) (by omega), arr_fits (val_fits _).2 (by omega), arr_fits (val_fits _).2 (by omega), (val_fits _).1, (val_fits _).1⟩
theorem wr_fits (st : Rest) : (wrOf st).1.fits := by
  rw [← wr_is]
  unfold wrM wrC2
  dsimp only
  generalize wrS _ _ _ _ = q
  cases q with
  | none => exact wrNo_fits
  | some b => exact wrX_fits _ _ _ _
theorem cl_fits (st : Rest) : (clStep st).1.fits := ⟨arr_fits (textOf_most st 20) (by omega), arr_fits (val_fits _).2 (by omega), (val_fits _).1.1, (val_fits _).1.2⟩
theorem ln_fits (st : Rest) : (lnStep st).1.fits := wr_fits _
theorem rep_all {α : Type} {s : Rest → α × Rest} {P : α → Prop} (h : ∀ st, P (s st).1) : ∀ (n : Nat) (st : Rest) (x : α), x ∈ (repG s n st).1 → P x
  | 0, st, x, hx => by cases hx
  | n + 1, none, x, hx => by cases hx
  | n + 1, some b, x, hx => by
    rw [repG_more] at hx
    rcases List.mem_cons.1 hx with e | hx
    · rw [e]
      exact h _
    · exact rep_all h n _ x hx
theorem rep_len {α : Type} (s : Rest → α × Rest) : ∀ (n : Nat) (st : Rest), (repG s n st).1.length ≤ n
  | 0, st => Nat.le_refl _
  | n + 1, none => Nat.zero_le _
  | n + 1, some b => by
    rw [repG_more, List.length_cons]
    have := rep_len s n (s (some b)).2
    omega
theorem baL_at {L : List (List UInt8)} {k : Nat} {x : ByteArray} (h : (baL L)[k]? = some x) : ∃ y, L[k]? = some y ∧ x = ⟨y.toArray⟩ := by
  unfold baL at h
  rw [List.getElem?_map] at h
  cases hy : L[k]? with
  | none => rw [hy] at h; cases h
  | some y =>
    rw [hy] at h
    injection h with h
    exact ⟨y, rfl, h.symm⟩
theorem rdS_of {B : Nat} {W : World} {A : Option Addr} {L : List (List UInt8)} (h : RdX 1 B W A (L.map preC)) : RdS B W A (baL L) := by
  intro k x hx
  obtain ⟨y, hy, rfl⟩ := baL_at hx
  obtain ⟨ad, hA, hl, hc⟩ := h k _ (map_get hy)
  refine ⟨ad, hA, hl, ?_⟩
  have := hc 0 _ rfl
  rwa [Nat.mul_one, Nat.add_zero] at this
theorem baL_sz {L : List (List UInt8)} (h : ∀ x, x ∈ L → x.length ≤ 20) : Sz 1000 (baL L) := by
  intro x hx
  obtain ⟨k, hk⟩ := List.getElem?_of_mem hx
  obtain ⟨y, hy, rfl⟩ := baL_at hk
  have := h y (List.mem_of_getElem? hy)
  show y.toArray.size ≤ 1000
  simp
  omega
end Go.Proofs.Ytnlnbgcmmlpniaa

namespace Go.Proofs.Ytnlnbgcmmlpniaa
open Go.RowKit

/-! slices.ContainsFunc of ints. -/
def PredI (g : Nat) (p : Int → Bool) (l : List Int) : Prop := ∀ (x : Int), x ∈ l → ∀ W, Calls Try.prog g #[.int .i64 x] W fun e W' => e = .returned (.bool (p x)) ∧ Below W.heap.size W W'
set_option maxRecDepth 100000 in
set_option maxHeartbeats 1000000 in
theorem idxI_any (g : Nat) (eg : ∀ args w, (callFunc g args).run Try.prog w = .ok (.enter g args) w) (p : Int → Bool) (A : Option Addr) (n c : Nat) (l : List Int) (w : World) (hn : l.length = n) (hr : RdX 1 w.heap.size w A (l.map intC)) (hm : n ≤ maxLen) (hp : PredI g p l) :
    Calls Try.prog 35 #[.slice A n c, .func (.func g) #[] #[]] w fun e w' => (∃ z : Int, e = .returned (.int .i64 z) ∧ decide (0 ≤ z) = l.any p) ∧ Below w.heap.size w w' := by
  unfold maxLen at hm
  have HN := Lib.hid hn
  have HP := Lib.hid hp
  have HR := Lib.hid (fun W (h : Below w.heap.size w W) => hr.keep (W' := W) h (Nat.le_refl _))
  clear hn hp hr
  go_enter Try.func35, Try.ntmps35
  go_wp2_with fail
  go_loopw [5, 8] (fun _ i wr => ∃ k : Nat, k ≤ n ∧ i = .int .i64 k ∧ Hid (∀ x, x ∈ l.take k → p x = false) ∧ Below w.heap.size w wr) (fun _ i _ => n - (intOf i).toNat)
  case atStart => exact ⟨0, Nat.zero_le _, rfl, fun x hx => by simp at hx, Below.refl _ _⟩
  case round =>
    obtain ⟨k, hk, rfl, hA, hB⟩ := hrel
    by_cases hlt : k < n
    · obtain ⟨x, hx⟩ : ∃ x, l[k]? = some x := ⟨_, List.getElem?_eq_getElem (show k < l.length by have := HN.out; omega)⟩
      obtain ⟨ad, rfl, _, hc⟩ := HR.out wr hB k _ (map_get hx)
      have i1 : (0 : Int) ≤ (k : Int) := by omega
      have i2 : (k : Int) < (n : Int) := by omega
      have HX := Lib.hid hx
      have HG := Lib.hid (HP.out x (List.mem_of_getElem? hx))
      clear hx
      have q0 : wr.cell? (ad.add k) = some (.int .i64 x) := by have := hc 0 _ rfl; simpa using this
      clear hc
      cases hb : p x with
      | true =>
        rw [hb] at HG
        have R : Hid (decide (0 ≤ (k : Int)) = l.any p) := by
          show _ = _
          rw [decide_eq_true i1]
          exact (List.any_eq_true.2 ⟨x, List.mem_of_getElem? HX.out, hb⟩).symm
        clear hb
        go_wp2_with (go_at_fn g; refine (HG.out wr).mono ?_; rintro e w2 ⟨rfl, hb2⟩)
        go_ret
        exact ⟨⟨_, rfl, R.out⟩, bt hB hb2⟩
      | false =>
        rw [hb] at HG
        have HA2 : Hid (∀ y, y ∈ l.take (k + 1) → p y = false) := fun y hy => by
          rw [List.take_add_one, HX.out] at hy
          rcases List.mem_append.1 hy with h | h
          · exact hA.out y h
          · have e : y = x := by simpa using h
            rw [e]
            exact hb
        clear hb hA
        go_wp2_with (go_at_fn g; refine (HG.out wr).mono ?_; rintro e w2 ⟨rfl, hb2⟩)
        go_roundw
        case rel => exact ⟨k + 1, by omega, by go_num, HA2, bt hB hb2⟩
        case measure => simp [intOf]; omega
    · have hq : ¬ (k : Int) < (n : Int) := by omega
      have R : Hid (decide ((0 : Int) ≤ -1) = l.any p) := by
        show _ = _
        have h0 : l.any p = false := by
          rw [List.any_eq_false]
          intro x hx
          rw [hA.out x (by rw [List.take_of_length_le (by have := HN.out; omega)]; exact hx)]
          exact Bool.false_ne_true
        rw [h0]
        rfl
      clear hA
      go_wp2_with fail
      go_ret
      exact ⟨⟨_, rfl, R.out⟩, hB⟩
set_option maxRecDepth 100000 in
theorem contI_any (g : Nat) (eg : ∀ args w, (callFunc g args).run Try.prog w = .ok (.enter g args) w) (p : Int → Bool) (A : Option Addr) (n c : Nat) (l : List Int) (w : World) (hn : l.length = n) (hr : RdX 1 w.heap.size w A (l.map intC)) (hm : n ≤ maxLen) (hp : PredI g p l) :
    Calls Try.prog 21 #[.slice A n c, .func (.func g) #[] #[]] w fun e w' => e = .returned (.bool (l.any p)) ∧ Below w.heap.size w w' := by
  have HI := Lib.hid (idxI_any g eg p A n c l w hn hr hm hp)
  generalize l.any p = v at HI ⊢
  go_enter Try.func21, Try.ntmps21
  go_wp2_with fail
  refine HI.out.mono ?_
  rintro e w2 ⟨⟨z, rfl, hz⟩, hb2⟩
  have HZ := Lib.hid hz
  clear hz
  go_wp2_with fail
  go_ret
  exact ⟨ret_bool HZ.out, hb2⟩

/-! GoodLasts. -/
def outI (x : Int) : Bool := decide (x < 0) || decide (40 < x)
theorem enters_outI : ∀ args w, (callFunc 20 args).run Try.prog w = .ok (.enter 20 args) w := enters_of Try.func20 (by kernel_rfl) rfl
theorem enters_gdLa : ∀ args w, (callFunc 7 args).run Try.prog w = .ok (.enter 7 args) w := enters_of Try.func7 (by kernel_rfl) rfl
set_option maxRecDepth 100000 in
theorem outI_any (x : Int) (w : World) : Calls Try.prog 20 #[.int .i64 x] w fun e w' => e = .returned (.bool (outI x)) ∧ Below w.heap.size w w' := by
  by_cases h0 : x < 0
  · have R : Hid (outI x = true) := by show _ = _; unfold outI; rw [decide_eq_true h0, Bool.true_or]
    go_enter Try.func20, Try.ntmps20
    go_wp2_with fail
    go_ret
    exact ⟨ret_bool R.out.symm, Below.refl _ _⟩
  · have R : Hid (outI x = decide (40 < x)) := by show _ = _; unfold outI; rw [decide_eq_false h0, Bool.false_or]
    go_enter Try.func20, Try.ntmps20
    go_wp2_with fail
    go_ret
    exact ⟨ret_bool R.out.symm, Below.refl _ _⟩
theorem in_out (x : Int) : decide (0 ≤ x ∧ x ≤ 40) = !outI x := by
  unfold outI
  by_cases h1 : x < 0
  · rw [decide_eq_true h1, decide_eq_false (by omega)]
    rfl
  · by_cases h2 : 40 < x
    · rw [decide_eq_true h2, decide_eq_false h1, decide_eq_false (by omega)]
      rfl
    · rw [decide_eq_false h2, decide_eq_false h1, decide_eq_true (by omega)]
      rfl
theorem goodLa_is (a0 a1 a2 a3 a4 a5 a6 a7 a8 a9 a10 a11 : Int) : goodLa (laL a0 a1 a2 a3 a4 a5 a6 a7 a8 a9 a10 a11) = (decide (a0 = 0) && !((laL a0 a1 a2 a3 a4 a5 a6 a7 a8 a9 a10 a11).any outI)) := by
  have e1 : (((laL a0 a1 a2 a3 a4 a5 a6 a7 a8 a9 a10 a11).head?) == some 0) = decide (a0 = 0) := by
    show (some a0 == some 0) = _
    rw [Bool.eq_iff_iff]
    simp
  have e2 : ((laL a0 a1 a2 a3 a4 a5 a6 a7 a8 a9 a10 a11).all fun x => decide (0 ≤ x ∧ x ≤ 40)) = !((laL a0 a1 a2 a3 a4 a5 a6 a7 a8 a9 a10 a11).any outI) := by
    have h := all_not (laL a0 a1 a2 a3 a4 a5 a6 a7 a8 a9 a10 a11) (fun x => decide (0 ≤ x ∧ x ≤ 40))
    rw [← h]
    have e : (fun x : Int => !decide (0 ≤ x ∧ x ≤ 40)) = outI := by
      funext x
      rw [in_out, Bool.not_not]
    rw [e]
  unfold goodLa
  rw [e1, e2, Bool.and_comm]
set_option maxRecDepth 100000 in
set_option maxHeartbeats 2000000 in
theorem goodLa_any (a0 a1 a2 a3 a4 a5 a6 a7 a8 a9 a10 a11 : Int) (w : World) : Calls Try.prog 7 #[.agg (laI a0 a1 a2 a3 a4 a5 a6 a7 a8 a9 a10 a11)] w fun e w' => e = .returned (.bool (goodLa (laL a0 a1 a2 a3 a4 a5 a6 a7 a8 a9 a10 a11))) ∧ Below w.heap.size w w' := by
  have hC := blk_new w (laI a0 a1 a2 a3 a4 a5 a6 a7 a8 a9 a10 a11) 24
  have hB := b0 w (.cells (laI a0 a1 a2 a3 a4 a5 a6 a7 a8 a9 a10 a11) 24)
  have HI := Lib.hid (contI_any 20 enters_outI outI (some ⟨w.heap.size, 0, none⟩) 12 12 (laL a0 a1 a2 a3 a4 a5 a6 a7 a8 a9 a10 a11) (w.alloc (.cells (laI a0 a1 a2 a3 a4 a5 a6 a7 a8 a9 a10 a11) 24)) rfl ((blk_la hC).more hC.lt) (by unfold maxLen; omega) (fun x _ W => outI_any x W))
  rw [goodLa_is]
  generalize (laL a0 a1 a2 a3 a4 a5 a6 a7 a8 a9 a10 a11).any outI = v at HI ⊢
  by_cases h0 : a0 = 0
  · have e0 : (a0 == 0) = true := by rw [beq_iff_eq]; exact h0
    have R : Hid ((!v) = (decide (a0 = 0) && !v)) := by show _ = _; rw [decide_eq_true h0, Bool.true_and]
    generalize (decide (a0 = 0) && !v) = r at R ⊢
    clear h0 hC
    go_enter Try.func7, Try.ntmps7
    go_wp2_with (go_at_call 21; refine HI.out.mono ?_; rintro e w2 ⟨rfl, hb2⟩)
    go_ret
    exact ⟨ret_bool R.out, bt hB hb2⟩
  · have e0 : (a0 == 0) = false := by rw [beq_eq_false_iff_ne]; exact h0
    have R : Hid (false = (decide (a0 = 0) && !v)) := by show _ = _; rw [decide_eq_false h0, Bool.false_and]
    generalize (decide (a0 = 0) && !v) = r at R ⊢
    clear h0 HI hC
    go_enter Try.func7, Try.ntmps7
    go_wp2_with fail
    go_ret
    exact ⟨ret_bool R.out, hB⟩

/-! sound, of lasts. -/
theorem results_cell_tmp_row {P : Program} {fn : Func} {p u : Tmp} {ty : TypeId} (h : fn.results = #[.cell p ty, .tmp u]) (tmps : Array Value) (w : World) (g : Nat) (t : TypeId) (cs : Array Value) (fr : Nat × Nat) (d : TypeDesc)
    (hp : tmps.getD p undef = .pointer (some ⟨g, 0, none⟩)) (hg : w.heap[g]? = some (.cells cs t fr))
    (hu : P.underlying ty = some d) (hd : (match d with | .struct _ | .array _ _ => true | _ => false) = true) (hi : (P.info? ty).map (·.size) = some cs.size) :
    (results fn tmps).run P w = .ok (.tuple #[.agg cs, tmps.getD u undef]) w := by
  have hp' : tmps[p]?.getD undef = .pointer (some ⟨g, 0, none⟩) := by simpa using hp
  simp [results, h, hp', asAddr, run_loadVar_row w g t ty cs fr d hg hu hd hi]
theorem set12 {W : World} {b : Nat} {u0 u1 u2 u3 u4 u5 u6 u7 u8 u9 u10 u11 : Value} {t : TypeId} (h : Blk W b #[u0, u1, u2, u3, u4, u5, u6, u7, u8, u9, u10, u11] t) (v0 v1 v2 v3 v4 v5 v6 v7 v8 v9 v10 v11 : Value) : Blk ((((((((((((W.setCell ⟨b, 0, none⟩ v0).setCell ⟨b, 1, none⟩ v1).setCell ⟨b, 2, none⟩ v2).setCell ⟨b, 3, none⟩ v3).setCell ⟨b, 4, none⟩ v4).setCell ⟨b, 5, none⟩ v5).setCell ⟨b, 6, none⟩ v6).setCell ⟨b, 7, none⟩ v7).setCell ⟨b, 8, none⟩ v8).setCell ⟨b, 9, none⟩ v9).setCell ⟨b, 10, none⟩ v10).setCell ⟨b, 11, none⟩ v11) b #[v0, v1, v2, v3, v4, v5, v6, v7, v8, v9, v10, v11] t := by
  have h0 : Blk (W.setCell ⟨b, 0, none⟩ v0) b #[v0, u1, u2, u3, u4, u5, u6, u7, u8, u9, u10, u11] t := h.set 0 v0
  have h1 : Blk ((W.setCell ⟨b, 0, none⟩ v0).setCell ⟨b, 1, none⟩ v1) b #[v0, v1, u2, u3, u4, u5, u6, u7, u8, u9, u10, u11] t := h0.set 1 v1
  have h2 : Blk (((W.setCell ⟨b, 0, none⟩ v0).setCell ⟨b, 1, none⟩ v1).setCell ⟨b, 2, none⟩ v2) b #[v0, v1, v2, u3, u4, u5, u6, u7, u8, u9, u10, u11] t := h1.set 2 v2
  have h3 : Blk ((((W.setCell ⟨b, 0, none⟩ v0).setCell ⟨b, 1, none⟩ v1).setCell ⟨b, 2, none⟩ v2).setCell ⟨b, 3, none⟩ v3) b #[v0, v1, v2, v3, u4, u5, u6, u7, u8, u9, u10, u11] t := h2.set 3 v3
  have h4 : Blk (((((W.setCell ⟨b, 0, none⟩ v0).setCell ⟨b, 1, none⟩ v1).setCell ⟨b, 2, none⟩ v2).setCell ⟨b, 3, none⟩ v3).setCell ⟨b, 4, none⟩ v4) b #[v0, v1, v2, v3, v4, u5, u6, u7, u8, u9, u10, u11] t := h3.set 4 v4
  have h5 : Blk ((((((W.setCell ⟨b, 0, none⟩ v0).setCell ⟨b, 1, none⟩ v1).setCell ⟨b, 2, none⟩ v2).setCell ⟨b, 3, none⟩ v3).setCell ⟨b, 4, none⟩ v4).setCell ⟨b, 5, none⟩ v5) b #[v0, v1, v2, v3, v4, v5, u6, u7, u8, u9, u10, u11] t := h4.set 5 v5
  have h6 : Blk (((((((W.setCell ⟨b, 0, none⟩ v0).setCell ⟨b, 1, none⟩ v1).setCell ⟨b, 2, none⟩ v2).setCell ⟨b, 3, none⟩ v3).setCell ⟨b, 4, none⟩ v4).setCell ⟨b, 5, none⟩ v5).setCell ⟨b, 6, none⟩ v6) b #[v0, v1, v2, v3, v4, v5, v6, u7, u8, u9, u10, u11] t := h5.set 6 v6
  have h7 : Blk ((((((((W.setCell ⟨b, 0, none⟩ v0).setCell ⟨b, 1, none⟩ v1).setCell ⟨b, 2, none⟩ v2).setCell ⟨b, 3, none⟩ v3).setCell ⟨b, 4, none⟩ v4).setCell ⟨b, 5, none⟩ v5).setCell ⟨b, 6, none⟩ v6).setCell ⟨b, 7, none⟩ v7) b #[v0, v1, v2, v3, v4, v5, v6, v7, u8, u9, u10, u11] t := h6.set 7 v7
  have h8 : Blk (((((((((W.setCell ⟨b, 0, none⟩ v0).setCell ⟨b, 1, none⟩ v1).setCell ⟨b, 2, none⟩ v2).setCell ⟨b, 3, none⟩ v3).setCell ⟨b, 4, none⟩ v4).setCell ⟨b, 5, none⟩ v5).setCell ⟨b, 6, none⟩ v6).setCell ⟨b, 7, none⟩ v7).setCell ⟨b, 8, none⟩ v8) b #[v0, v1, v2, v3, v4, v5, v6, v7, v8, u9, u10, u11] t := h7.set 8 v8
  have h9 : Blk ((((((((((W.setCell ⟨b, 0, none⟩ v0).setCell ⟨b, 1, none⟩ v1).setCell ⟨b, 2, none⟩ v2).setCell ⟨b, 3, none⟩ v3).setCell ⟨b, 4, none⟩ v4).setCell ⟨b, 5, none⟩ v5).setCell ⟨b, 6, none⟩ v6).setCell ⟨b, 7, none⟩ v7).setCell ⟨b, 8, none⟩ v8).setCell ⟨b, 9, none⟩ v9) b #[v0, v1, v2, v3, v4, v5, v6, v7, v8, v9, u10, u11] t := h8.set 9 v9
  have h10 : Blk (((((((((((W.setCell ⟨b, 0, none⟩ v0).setCell ⟨b, 1, none⟩ v1).setCell ⟨b, 2, none⟩ v2).setCell ⟨b, 3, none⟩ v3).setCell ⟨b, 4, none⟩ v4).setCell ⟨b, 5, none⟩ v5).setCell ⟨b, 6, none⟩ v6).setCell ⟨b, 7, none⟩ v7).setCell ⟨b, 8, none⟩ v8).setCell ⟨b, 9, none⟩ v9).setCell ⟨b, 10, none⟩ v10) b #[v0, v1, v2, v3, v4, v5, v6, v7, v8, v9, v10, u11] t := h9.set 10 v10
  have h11 : Blk ((((((((((((W.setCell ⟨b, 0, none⟩ v0).setCell ⟨b, 1, none⟩ v1).setCell ⟨b, 2, none⟩ v2).setCell ⟨b, 3, none⟩ v3).setCell ⟨b, 4, none⟩ v4).setCell ⟨b, 5, none⟩ v5).setCell ⟨b, 6, none⟩ v6).setCell ⟨b, 7, none⟩ v7).setCell ⟨b, 8, none⟩ v8).setCell ⟨b, 9, none⟩ v9).setCell ⟨b, 10, none⟩ v10).setCell ⟨b, 11, none⟩ v11) b #[v0, v1, v2, v3, v4, v5, v6, v7, v8, v9, v10, v11] t := h10.set 11 v11
  exact h11
theorem grown12 (W : World) (b : Nat) (v0 v1 v2 v3 v4 v5 v6 v7 v8 v9 v10 v11 : Value) : W.grownBy ((((((((((((W.setCell ⟨b, 0, none⟩ v0).setCell ⟨b, 1, none⟩ v1).setCell ⟨b, 2, none⟩ v2).setCell ⟨b, 3, none⟩ v3).setCell ⟨b, 4, none⟩ v4).setCell ⟨b, 5, none⟩ v5).setCell ⟨b, 6, none⟩ v6).setCell ⟨b, 7, none⟩ v7).setCell ⟨b, 8, none⟩ v8).setCell ⟨b, 9, none⟩ v9).setCell ⟨b, 10, none⟩ v10).setCell ⟨b, 11, none⟩ v11) (some b) := (((((((((((set_grown.trans set_grown).trans set_grown).trans set_grown).trans set_grown).trans set_grown).trans set_grown).trans set_grown).trans set_grown).trans set_grown).trans set_grown).trans set_grown)
theorem below12 {B b : Nat} {w W : World} (h : Below B w W) (hb : B ≤ b) (v0 v1 v2 v3 v4 v5 v6 v7 v8 v9 v10 v11 : Value) : Below B w ((((((((((((W.setCell ⟨b, 0, none⟩ v0).setCell ⟨b, 1, none⟩ v1).setCell ⟨b, 2, none⟩ v2).setCell ⟨b, 3, none⟩ v3).setCell ⟨b, 4, none⟩ v4).setCell ⟨b, 5, none⟩ v5).setCell ⟨b, 6, none⟩ v6).setCell ⟨b, 7, none⟩ v7).setCell ⟨b, 8, none⟩ v8).setCell ⟨b, 9, none⟩ v9).setCell ⟨b, 10, none⟩ v10).setCell ⟨b, 11, none⟩ v11) := ((((((((((((h.setCell (p := ⟨b, 0, none⟩) hb v0).setCell (p := ⟨b, 1, none⟩) hb v1).setCell (p := ⟨b, 2, none⟩) hb v2).setCell (p := ⟨b, 3, none⟩) hb v3).setCell (p := ⟨b, 4, none⟩) hb v4).setCell (p := ⟨b, 5, none⟩) hb v5).setCell (p := ⟨b, 6, none⟩) hb v6).setCell (p := ⟨b, 7, none⟩) hb v7).setCell (p := ⟨b, 8, none⟩) hb v8).setCell (p := ⟨b, 9, none⟩) hb v9).setCell (p := ⟨b, 10, none⟩) hb v10).setCell (p := ⟨b, 11, none⟩) hb v11)

/-! TakeLasts. -/
/-- What a reader has left behind j numbers of at most 40; the j-th of them. -/
def stN (st : Rest) : Nat → Rest
  | 0 => st
  | j + 1 => (numOf (stN st j) 40).2
def vN (st : Rest) (j : Nat) : Nat := (numOf (stN st j) 40).1
def vZ (st : Rest) (j i : Nat) : Int := if i < j then (vN st i : Int) else 0
abbrev rowLa (st : Rest) (j : Nat) : Array Value := laI (vZ st j 0) (vZ st j 1) (vZ st j 2) (vZ st j 3) (vZ st j 4) (vZ st j 5) (vZ st j 6) (vZ st j 7) (vZ st j 8) (vZ st j 9) (vZ st j 10) (vZ st j 11)
theorem vZ_old {st : Rest} {j i : Nat} (h : i ≠ j) : vZ st (j + 1) i = vZ st j i := by
  unfold vZ
  by_cases hi : i < j
  · rw [if_pos hi, if_pos (by omega)]
  · rw [if_neg hi, if_neg (by omega)]
theorem vZ_new (st : Rest) (j : Nat) : vZ st (j + 1) j = (vN st j : Int) := if_pos (by omega)
theorem rowLa_set (st : Rest) {j : Nat} (hj : j < 12) : (rowLa st j).setIfInBounds j (.int .i64 (vN st j : Int)) = rowLa st (j + 1) := by
  have h : ∀ i, vZ st (j + 1) i = if i = j then (vN st j : Int) else vZ st j i := by
    intro i
    by_cases e : i = j
    · rw [if_pos e, e, vZ_new]
    · rw [if_neg e, vZ_old e]
  have hc : j = 0 ∨ j = 1 ∨ j = 2 ∨ j = 3 ∨ j = 4 ∨ j = 5 ∨ j = 6 ∨ j = 7 ∨ j = 8 ∨ j = 9 ∨ j = 10 ∨ j = 11 := by omega
  unfold rowLa
  simp only [h]
  rcases hc with rfl | rfl | rfl | rfl | rfl | rfl | rfl | rfl | rfl | rfl | rfl | rfl <;> rfl
theorem rowLa_at (st : Rest) (i : Nat) {j : Nat} (hj : j < 12) : (rowLa st i)[j]? = some (.int .i64 (vZ st i j)) := by
  have hc : j = 0 ∨ j = 1 ∨ j = 2 ∨ j = 3 ∨ j = 4 ∨ j = 5 ∨ j = 6 ∨ j = 7 ∨ j = 8 ∨ j = 9 ∨ j = 10 ∨ j = 11 := by omega
  rcases hc with rfl | rfl | rfl | rfl | rfl | rfl | rfl | rfl | rfl | rfl | rfl | rfl <;> rfl
abbrev lastsOf (st : Rest) : List Int := laL (vZ st 12 0) (vZ st 12 1) (vZ st 12 2) (vZ st 12 3) (vZ st 12 4) (vZ st 12 5) (vZ st 12 6) (vZ st 12 7) (vZ st 12 8) (vZ st 12 9) (vZ st 12 10) (vZ st 12 11)
/-- What a reader takes of lasts, and has left; nothing: an error. -/
def outLa (st : Rest) : Option (List Int × List UInt8) := match stN st 12 with
  | none => none
  | some b => if goodLa (lastsOf st) = true then some (lastsOf st, b) else none
end Go.Proofs.Ytnlnbgcmmlpniaa
