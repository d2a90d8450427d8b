/-
  WHAT IS PROVED: package roll's GoodLasts tells whether lasts are good, and its TakeLasts takes them from a reader, as the chapter says. Conditions: those typed in each theorem.
-/
import Derived.Test.YtnlnbgcmmlpniaaDoorM6
import Derived.Test.YtnlnbgcmmlpniaaDoorRTake
namespace Go.Proofs.YtnlnbgcmmlpniaaDoor
open Go.RowKit

/-! slices.ContainsFunc of ints. -/
def PredI (g : Nat) (p : Int → Bool) (l : List Int) : Prop := ∀ (x : Int), x ∈ l → ∀ W, Calls Tryd.prog g #[.int .i64 x] W fun e W' => e = .returned (.bool (p x)) ∧ Below W.heap.size W W'
/-! GoodLasts. -/
def outI (x : Int) : Bool := decide (x < 0) || decide (40 < x)
theorem in_out (x : Int) : decide (0 ≤ x ∧ x ≤ 40) = !outI x := by
  unfold outI
  by_cases h1 : x < 0
  · rw [decide_eq_true h1, decide_eq_false (by omega)]
    rfl
  · by_cases h2 : 40 < x
    · rw [decide_eq_true h2, decide_eq_false h1, decide_eq_false (by omega)]
      rfl
    · rw [decide_eq_false h2, decide_eq_false h1, decide_eq_true (by omega)]
      rfl
theorem goodLa_is (a0 a1 a2 a3 a4 a5 a6 a7 a8 a9 a10 a11 : Int) : goodLa (laL a0 a1 a2 a3 a4 a5 a6 a7 a8 a9 a10 a11) = (decide (a0 = 0) && !((laL a0 a1 a2 a3 a4 a5 a6 a7 a8 a9 a10 a11).any outI)) := by
  have e1 : (((laL a0 a1 a2 a3 a4 a5 a6 a7 a8 a9 a10 a11).head?) == some 0) = decide (a0 = 0) := by
    show (some a0 == some 0) = _
    rw [Bool.eq_iff_iff]
    simp
  have e2 : ((laL a0 a1 a2 a3 a4 a5 a6 a7 a8 a9 a10 a11).all fun x => decide (0 ≤ x ∧ x ≤ 40)) = !((laL a0 a1 a2 a3 a4 a5 a6 a7 a8 a9 a10 a11).any outI) := by
    have h := all_not (laL a0 a1 a2 a3 a4 a5 a6 a7 a8 a9 a10 a11) (fun x => decide (0 ≤ x ∧ x ≤ 40))
    rw [← h]
    have e : (fun x : Int => !decide (0 ≤ x ∧ x ≤ 40)) = outI := by
      funext x
      rw [in_out, Bool.not_not]
    rw [e]
  unfold goodLa
  rw [e1, e2, Bool.and_comm]
/-! sound, of lasts. -/
theorem results_cell_tmp_row {P : Program} {fn : Func} {p u : Tmp} {ty : TypeId} (h : fn.results = #[.cell p ty, .tmp u]) (tmps : Array Value) (w : World) (g : Nat) (t : TypeId) (cs : Array Value) (fr : Nat × Nat) (d : TypeDesc)
    (hp : tmps.getD p undef = .pointer (some ⟨g, 0, none⟩)) (hg : w.heap[g]? = some (.cells cs t fr))
    (hu : P.underlying ty = some d) (hd : (match d with | .struct _ | .array _ _ => true | _ => false) = true) (hi : (P.info? ty).map (·.size) = some cs.size) :
    (results fn tmps).run P w = .ok (.tuple #[.agg cs, tmps.getD u undef]) w := by
  have hp' : tmps[p]?.getD undef = .pointer (some ⟨g, 0, none⟩) := by simpa using hp
  simp [results, h, hp', asAddr, run_loadVar_row w g t ty cs fr d hg hu hd hi]
theorem set12 {W : World} {b : Nat} {u0 u1 u2 u3 u4 u5 u6 u7 u8 u9 u10 u11 : Value} {t : TypeId} (h : Blk W b #[u0, u1, u2, u3, u4, u5, u6, u7, u8, u9, u10, u11] t) (v0 v1 v2 v3 v4 v5 v6 v7 v8 v9 v10 v11 : Value) : Blk ((((((((((((W.setCell ⟨b, 0, none⟩ v0).setCell ⟨b, 1, none⟩ v1).setCell ⟨b, 2, none⟩ v2).setCell ⟨b, 3, none⟩ v3).setCell ⟨b, 4, none⟩ v4).setCell ⟨b, 5, none⟩ v5).setCell ⟨b, 6, none⟩ v6).setCell ⟨b, 7, none⟩ v7).setCell ⟨b, 8, none⟩ v8).setCell ⟨b, 9, none⟩ v9).setCell ⟨b, 10, none⟩ v10).setCell ⟨b, 11, none⟩ v11) b #[v0, v1, v2, v3, v4, v5, v6, v7, v8, v9, v10, v11] t := by
  have h0 : Blk (W.setCell ⟨b, 0, none⟩ v0) b #[v0, u1, u2, u3, u4, u5, u6, u7, u8, u9, u10, u11] t := h.set 0 v0
  have h1 : Blk ((W.setCell ⟨b, 0, none⟩ v0).setCell ⟨b, 1, none⟩ v1) b #[v0, v1, u2, u3, u4, u5, u6, u7, u8, u9, u10, u11] t := h0.set 1 v1
  have h2 : Blk (((W.setCell ⟨b, 0, none⟩ v0).setCell ⟨b, 1, none⟩ v1).setCell ⟨b, 2, none⟩ v2) b #[v0, v1, v2, u3, u4, u5, u6, u7, u8, u9, u10, u11] t := h1.set 2 v2
  have h3 : Blk ((((W.setCell ⟨b, 0, none⟩ v0).setCell ⟨b, 1, none⟩ v1).setCell ⟨b, 2, none⟩ v2).setCell ⟨b, 3, none⟩ v3) b #[v0, v1, v2, v3, u4, u5, u6, u7, u8, u9, u10, u11] t := h2.set 3 v3
  have h4 : Blk (((((W.setCell ⟨b, 0, none⟩ v0).setCell ⟨b, 1, none⟩ v1).setCell ⟨b, 2, none⟩ v2).setCell ⟨b, 3, none⟩ v3).setCell ⟨b, 4, none⟩ v4) b #[v0, v1, v2, v3, v4, u5, u6, u7, u8, u9, u10, u11] t := h3.set 4 v4
  have h5 : Blk ((((((W.setCell ⟨b, 0, none⟩ v0).setCell ⟨b, 1, none⟩ v1).setCell ⟨b, 2, none⟩ v2).setCell ⟨b, 3, none⟩ v3).setCell ⟨b, 4, none⟩ v4).setCell ⟨b, 5, none⟩ v5) b #[v0, v1, v2, v3, v4, v5, u6, u7, u8, u9, u10, u11] t := h4.set 5 v5
  have h6 : Blk (((((((W.setCell ⟨b, 0, none⟩ v0).setCell ⟨b, 1, none⟩ v1).setCell ⟨b, 2, none⟩ v2).setCell ⟨b, 3, none⟩ v3).setCell ⟨b, 4, none⟩ v4).setCell ⟨b, 5, none⟩ v5).setCell ⟨b, 6, none⟩ v6) b #[v0, v1, v2, v3, v4, v5, v6, u7, u8, u9, u10, u11] t := h5.set 6 v6
  have h7 : Blk ((((((((W.setCell ⟨b, 0, none⟩ v0).setCell ⟨b, 1, none⟩ v1).setCell ⟨b, 2, none⟩ v2).setCell ⟨b, 3, none⟩ v3).setCell ⟨b, 4, none⟩ v4).setCell ⟨b, 5, none⟩ v5).setCell ⟨b, 6, none⟩ v6).setCell ⟨b, 7, none⟩ v7) b #[v0, v1, v2, v3, v4, v5, v6, v7, u8, u9, u10, u11] t := h6.set 7 v7
  have h8 : Blk (((((((((W.setCell ⟨b, 0, none⟩ v0).setCell ⟨b, 1, none⟩ v1).setCell ⟨b, 2, none⟩ v2).setCell ⟨b, 3, none⟩ v3).setCell ⟨b, 4, none⟩ v4).setCell ⟨b, 5, none⟩ v5).setCell ⟨b, 6, none⟩ v6).setCell ⟨b, 7, none⟩ v7).setCell ⟨b, 8, none⟩ v8) b #[v0, v1, v2, v3, v4, v5, v6, v7, v8, u9, u10, u11] t := h7.set 8 v8
  have h9 : Blk ((((((((((W.setCell ⟨b, 0, none⟩ v0).setCell ⟨b, 1, none⟩ v1).setCell ⟨b, 2, none⟩ v2).setCell ⟨b, 3, none⟩ v3).setCell ⟨b, 4, none⟩ v4).setCell ⟨b, 5, none⟩ v5).setCell ⟨b, 6, none⟩ v6).setCell ⟨b, 7, none⟩ v7).setCell ⟨b, 8, none⟩ v8).setCell ⟨b, 9, none⟩ v9) b #[v0, v1, v2, v3, v4, v5, v6, v7, v8, v9, u10, u11] t := h8.set 9 v9
  have h10 : Blk (((((((((((W.setCell ⟨b, 0, none⟩ v0).setCell ⟨b, 1, none⟩ v1).setCell ⟨b, 2, none⟩ v2).setCell ⟨b, 3, none⟩ v3).setCell ⟨b, 4, none⟩ v4).setCell ⟨b, 5, none⟩ v5).setCell ⟨b, 6, none⟩ v6).setCell ⟨b, 7, none⟩ v7).setCell ⟨b, 8, none⟩ v8).setCell ⟨b, 9, none⟩ v9).setCell ⟨b, 10, none⟩ v10) b #[v0, v1, v2, v3, v4, v5, v6, v7, v8, v9, v10, u11] t := h9.set 10 v10
  have h11 : Blk ((((((((((((W.setCell ⟨b, 0, none⟩ v0).setCell ⟨b, 1, none⟩ v1).setCell ⟨b, 2, none⟩ v2).setCell ⟨b, 3, none⟩ v3).setCell ⟨b, 4, none⟩ v4).setCell ⟨b, 5, none⟩ v5).setCell ⟨b, 6, none⟩ v6).setCell ⟨b, 7, none⟩ v7).setCell ⟨b, 8, none⟩ v8).setCell ⟨b, 9, none⟩ v9).setCell ⟨b, 10, none⟩ v10).setCell ⟨b, 11, none⟩ v11) b #[v0, v1, v2, v3, v4, v5, v6, v7, v8, v9, v10, v11] t := h10.set 11 v11
  exact h11
theorem grown12 (W : World) (b : Nat) (v0 v1 v2 v3 v4 v5 v6 v7 v8 v9 v10 v11 : Value) : W.grownBy ((((((((((((W.setCell ⟨b, 0, none⟩ v0).setCell ⟨b, 1, none⟩ v1).setCell ⟨b, 2, none⟩ v2).setCell ⟨b, 3, none⟩ v3).setCell ⟨b, 4, none⟩ v4).setCell ⟨b, 5, none⟩ v5).setCell ⟨b, 6, none⟩ v6).setCell ⟨b, 7, none⟩ v7).setCell ⟨b, 8, none⟩ v8).setCell ⟨b, 9, none⟩ v9).setCell ⟨b, 10, none⟩ v10).setCell ⟨b, 11, none⟩ v11) (some b) := (((((((((((set_grown.trans set_grown).trans set_grown).trans set_grown).trans set_grown).trans set_grown).trans set_grown).trans set_grown).trans set_grown).trans set_grown).trans set_grown).trans set_grown)
theorem below12 {B b : Nat} {w W : World} (h : Below B w W) (hb : B ≤ b) (v0 v1 v2 v3 v4 v5 v6 v7 v8 v9 v10 v11 : Value) : Below B w ((((((((((((W.setCell ⟨b, 0, none⟩ v0).setCell ⟨b, 1, none⟩ v1).setCell ⟨b, 2, none⟩ v2).setCell ⟨b, 3, none⟩ v3).setCell ⟨b, 4, none⟩ v4).setCell ⟨b, 5, none⟩ v5).setCell ⟨b, 6, none⟩ v6).setCell ⟨b, 7, none⟩ v7).setCell ⟨b, 8, none⟩ v8).setCell ⟨b, 9, none⟩ v9).setCell ⟨b, 10, none⟩ v10).setCell ⟨b, 11, none⟩ v11) := ((((((((((((h.setCell (p := ⟨b, 0, none⟩) hb v0).setCell (p := ⟨b, 1, none⟩) hb v1).setCell (p := ⟨b, 2, none⟩) hb v2).setCell (p := ⟨b, 3, none⟩) hb v3).setCell (p := ⟨b, 4, none⟩) hb v4).setCell (p := ⟨b, 5, none⟩) hb v5).setCell (p := ⟨b, 6, none⟩) hb v6).setCell (p := ⟨b, 7, none⟩) hb v7).setCell (p := ⟨b, 8, none⟩) hb v8).setCell (p := ⟨b, 9, none⟩) hb v9).setCell (p := ⟨b, 10, none⟩) hb v10).setCell (p := ⟨b, 11, none⟩) hb v11)

/-! TakeLasts. -/
/-- What a reader has left behind j numbers of at most 40; the j-th of them. -/
def stN (st : Rest) : Nat → Rest
  | 0 => st
  | j + 1 => (numOf (stN st j) 40).2
def vN (st : Rest) (j : Nat) : Nat := (numOf (stN st j) 40).1
def vZ (st : Rest) (j i : Nat) : Int := if i < j then (vN st i : Int) else 0
abbrev rowLa (st : Rest) (j : Nat) : Array Value := laI (vZ st j 0) (vZ st j 1) (vZ st j 2) (vZ st j 3) (vZ st j 4) (vZ st j 5) (vZ st j 6) (vZ st j 7) (vZ st j 8) (vZ st j 9) (vZ st j 10) (vZ st j 11)
theorem vZ_old {st : Rest} {j i : Nat} (h : i ≠ j) : vZ st (j + 1) i = vZ st j i := by
  unfold vZ
  by_cases hi : i < j
  · rw [if_pos hi, if_pos (by omega)]
  · rw [if_neg hi, if_neg (by omega)]
theorem vZ_new (st : Rest) (j : Nat) : vZ st (j + 1) j = (vN st j : Int) := if_pos (by omega)
theorem rowLa_set (st : Rest) {j : Nat} (hj : j < 12) : (rowLa st j).setIfInBounds j (.int .i64 (vN st j : Int)) = rowLa st (j + 1) := by
  have h : ∀ i, vZ st (j + 1) i = if i = j then (vN st j : Int) else vZ st j i := by
    intro i
    by_cases e : i = j
    · rw [if_pos e, e, vZ_new]
    · rw [if_neg e, vZ_old e]
  have hc : j = 0 ∨ j = 1 ∨ j = 2 ∨ j = 3 ∨ j = 4 ∨ j = 5 ∨ j = 6 ∨ j = 7 ∨ j = 8 ∨ j = 9 ∨ j = 10 ∨ j = 11 := by omega
  unfold rowLa
  simp only [h]
  rcases hc with rfl | rfl | rfl | rfl | rfl | rfl | rfl | rfl | rfl | rfl | rfl | rfl <;> rfl
theorem rowLa_at (st : Rest) (i : Nat) {j : Nat} (hj : j < 12) : (rowLa st i)[j]? = some (.int .i64 (vZ st i j)) := by
  have hc : j = 0 ∨ j = 1 ∨ j = 2 ∨ j = 3 ∨ j = 4 ∨ j = 5 ∨ j = 6 ∨ j = 7 ∨ j = 8 ∨ j = 9 ∨ j = 10 ∨ j = 11 := by omega
  rcases hc with rfl | rfl | rfl | rfl | rfl | rfl | rfl | rfl | rfl | rfl | rfl | rfl <;> rfl
abbrev lastsOf (st : Rest) : List Int := laL (vZ st 12 0) (vZ st 12 1) (vZ st 12 2) (vZ st 12 3) (vZ st 12 4) (vZ st 12 5) (vZ st 12 6) (vZ st 12 7) (vZ st 12 8) (vZ st 12 9) (vZ st 12 10) (vZ st 12 11)
/-- What a reader takes of lasts, and has left; nothing: an error. -/
def outLa (st : Rest) : Option (List Int × List UInt8) := match stN st 12 with
  | none => none
  | some b => if goodLa (lastsOf st) = true then some (lastsOf st, b) else none
def TakenLa (S : Addr) (g : Nat) (r : Option (List Int × List UInt8)) (w : World) (e : Ending) (w' : World) : Prop :=
  (match r with
    | some (l, b) => e = .returned (.tuple #[.agg (lastsI l), .int .i64 0]) ∧ RdrP S w' g (some b)
    | none => e = .returned (.tuple #[.agg (laI 0 0 0 0 0 0 0 0 0 0 0 0), .int .i64 2]) ∧ ∃ st, RdrP S w' g st) ∧ w.grownBy w' (some g)
end Go.Proofs.YtnlnbgcmmlpniaaDoor
