/-
  WHAT IS PROVED: arguments that are twelve numbers, or an id: opened (own work, over any program that bears the types named).
-/
import Derived.Test.YtgbopikhdpmmcaaPostB
import Derived.Test.YtgbopikhdpmmcaaPostW
import Derived.Test.YtgbopikhdpmmcaaLa
import Derived.Lib.SmallJoins
import Derived.Deep.Slices
namespace Go.Proofs.Ytgbopikhdpmmcaa
open Go.RowKit Go.WideShapes Go.ChangeShapes

theorem okWide_arrR {P : Program} {w : World} {r : Reach} {base n : Nat} {t e : TypeId} {v : Value} (ht : P.underlying t = some (.array n e)) (h : Value.okWide P w r base t v) : ∃ cs, v = .agg cs ∧ cs.size = P.cellsOf t := by
  simp only [Value.okWide, ht] at h
  obtain ⟨cs, h1, h2, _⟩ := h
  exact ⟨cs, h1, h2⟩
section
open Go.Joins Go.Deep
variable {H : Type} {enc : TypeId × Value → H}
theorem cellsTr : Try.prog.cellsOf 23 = 12 := by kernel_rfl
theorem arr_getR {xs : List (DataW H × List MemPlace)} {n : Nat} (h : xs.length = n) {i : Nat} (hi : i < n) : ∃ y, xs[i]? = some y := ⟨xs[i], List.getElem?_eq_getElem (by omega)⟩
set_option maxRecDepth 100000 in
/-- An argument of twelve numbers, opened. -/
theorem open_lasts {W : World} {r : Reach} {b0 : Nat} {v : Value} {d : DataW H} {p : List MemPlace} (hv : Value.okWide Try.prog W r b0 23 v) (h : DataW.Trod enc Try.prog W 0 (fun _ => true) true 23 v d p) :
    ∃ a0 a1 a2 a3 a4 a5 a6 a7 a8 a9 a10 a11 : Int, v = .agg (laI a0 a1 a2 a3 a4 a5 a6 a7 a8 a9 a10 a11) := by
  obtain ⟨cs, rfl, hsz⟩ := okWide_arrR Try.underlying23 hv
  obtain ⟨l⟩ := cs
  match l, hsz.trans cellsTr with
  | [c0, c1, c2, c3, c4, c5, c6, c7, c8, c9, c10, c11], _ =>
    obtain ⟨fuel, hf⟩ := h
    obtain ⟨xs, m, _, _, _, hl, hx⟩ := DataW.trod_array Try.underlying23 hf
    obtain ⟨y0, e0⟩ := arr_getR hl (i := 0) (by omega)
    have h0 := (hx 0 (by omega)).trans e0
    obtain ⟨y1, e1⟩ := arr_getR hl (i := 1) (by omega)
    have h1 := (hx 1 (by omega)).trans e1
    obtain ⟨y2, e2⟩ := arr_getR hl (i := 2) (by omega)
    have h2 := (hx 2 (by omega)).trans e2
    obtain ⟨y3, e3⟩ := arr_getR hl (i := 3) (by omega)
    have h3 := (hx 3 (by omega)).trans e3
    obtain ⟨y4, e4⟩ := arr_getR hl (i := 4) (by omega)
    have h4 := (hx 4 (by omega)).trans e4
    obtain ⟨y5, e5⟩ := arr_getR hl (i := 5) (by omega)
    have h5 := (hx 5 (by omega)).trans e5
    obtain ⟨y6, e6⟩ := arr_getR hl (i := 6) (by omega)
    have h6 := (hx 6 (by omega)).trans e6
    obtain ⟨y7, e7⟩ := arr_getR hl (i := 7) (by omega)
    have h7 := (hx 7 (by omega)).trans e7
    obtain ⟨y8, e8⟩ := arr_getR hl (i := 8) (by omega)
    have h8 := (hx 8 (by omega)).trans e8
    obtain ⟨y9, e9⟩ := arr_getR hl (i := 9) (by omega)
    have h9 := (hx 9 (by omega)).trans e9
    obtain ⟨y10, e10⟩ := arr_getR hl (i := 10) (by omega)
    have h10 := (hx 10 (by omega)).trans e10
    obtain ⟨y11, e11⟩ := arr_getR hl (i := 11) (by omega)
    have h11 := (hx 11 (by omega)).trans e11
    simp only [Value.cells, cellsIw, Nat.mul_one, List.drop_zero, List.drop_succ_cons, List.take_succ_cons, List.take_zero] at h0 h1 h2 h3 h4 h5 h6 h7 h8 h9 h10 h11
    obtain ⟨k0, q0, _, _⟩ := DataW.trod_int Try.underlying3 h0
    obtain ⟨k1, q1, _, _⟩ := DataW.trod_int Try.underlying3 h1
    obtain ⟨k2, q2, _, _⟩ := DataW.trod_int Try.underlying3 h2
    obtain ⟨k3, q3, _, _⟩ := DataW.trod_int Try.underlying3 h3
    obtain ⟨k4, q4, _, _⟩ := DataW.trod_int Try.underlying3 h4
    obtain ⟨k5, q5, _, _⟩ := DataW.trod_int Try.underlying3 h5
    obtain ⟨k6, q6, _, _⟩ := DataW.trod_int Try.underlying3 h6
    obtain ⟨k7, q7, _, _⟩ := DataW.trod_int Try.underlying3 h7
    obtain ⟨k8, q8, _, _⟩ := DataW.trod_int Try.underlying3 h8
    obtain ⟨k9, q9, _, _⟩ := DataW.trod_int Try.underlying3 h9
    obtain ⟨k10, q10, _, _⟩ := DataW.trod_int Try.underlying3 h10
    obtain ⟨k11, q11, _, _⟩ := DataW.trod_int Try.underlying3 h11
    simp at q0 q1 q2 q3 q4 q5 q6 q7 q8 q9 q10 q11
    subst q0 q1 q2 q3 q4 q5 q6 q7 q8 q9 q10 q11
    exact ⟨k0, k1, k2, k3, k4, k5, k6, k7, k8, k9, k10, k11, rfl⟩
set_option maxRecDepth 100000 in
/-- An argument that is an id, opened. -/
theorem open_id {W : World} {r : Reach} {b0 : Nat} {v : Value} {d : DataW H} {p : List MemPlace} (hv : Value.okWide Try.prog W r b0 26 v) (h : DataW.Trod enc Try.prog W 0 (fun _ => true) true 26 v d p) :
    ∃ (dev seq : Int), v = .agg #[.int .i64 dev, .int .i64 seq] ∧ (-9223372036854775808 ≤ seq ∧ seq ≤ 9223372036854775807) := by
  obtain ⟨cs, rfl, hsz⟩ := okWide_struct Try.underlying26 hv
  obtain ⟨l⟩ := cs
  match l, hsz.trans cellsDw with
  | [c0, c1], _ =>
    obtain ⟨fuel, hf⟩ := h
    obtain ⟨y0, y1, n, _, _, h0, h1⟩ := trod_struct2 Try.underlying26 hf
    simp only [Value.cells, cellsIw, List.drop_zero, List.drop_succ_cons, List.take_succ_cons, List.take_zero] at h0 h1
    obtain ⟨k0, q0, _, _⟩ := DataW.trod_int Try.underlying3 h0
    obtain ⟨k1, q1, _, w1⟩ := DataW.trod_int Try.underlying3 h1
    simp at q0 q1
    subst q0 q1
    exact ⟨k0, k1, rfl, wf_i64 w1⟩
set_option maxRecDepth 100000 in
/-- An argument that is a slice of writes, opened. -/
theorem open_wrlc {t : TypeId} (ht : Try.prog.underlying t = some (.slice 51)) {W : World} {r : Reach} {b0 : Nat} {v : Value} {d : DataW H} {p : List MemPlace} (hv : Value.okWide Try.prog W r b0 t v) (h : DataW.Trod enc Try.prog W 0 (fun _ => true) true t v d p) :
    ∃ (A : Option Addr) (n c : Nat) (l : List Wr), v = .slice A n c ∧ l.length = n ∧ RdW W.heap.size W A l ∧ n ≤ maxLen ∧ n ≤ c ∧ ∀ x, x ∈ l → x.fits := by
  obtain ⟨A, n, c, rfl⟩ := okWide_slice ht hv
  obtain ⟨fuel, hf⟩ := h
  rcases open_slice ht hf with ⟨hcs, _⟩ | ⟨a, len, cap, m, f, D, Pl, hcs, _, hl, hm, hmm, _, hi⟩
  · simp [Value.cells] at hcs
    obtain ⟨rfl, rfl, rfl⟩ := hcs
    exact ⟨none, 0, 0, [], rfl, rfl, RdW.nil _ _ _, Nat.zero_le _, Nat.le_refl _, fun x hx => by simp at hx⟩
  · simp [Value.cells] at hcs
    obtain ⟨rfl, rfl, rfl⟩ := hcs
    have hle : n ≤ m := by rw [hmm]; simp; omega
    have hx : ∀ i, ∃ x : Wr, i < n → x.fits ∧ ∀ j v, x.cells[j]? = some v → W.cell? (a.add (i * 10 + j)) = some v := by
      intro i
      by_cases hin : i < n
      · obtain ⟨cs', hc, ht'⟩ := hi i (by omega)
        rw [cellsWw] at hc
        obtain ⟨_, hlen, hcell⟩ := World.cells?_some hc
        obtain ⟨x, rfl, hfx⟩ := open_wrW hlen ht'
        refine ⟨x, fun _ => ⟨hfx, fun j v hj => ?_⟩⟩
        have hj10 : j < 10 := by
          have := (Array.getElem?_eq_some_iff.1 hj).1
          simpa using this
        rw [← add_add', hcell j hj10, Array.getElem?_toList]
        exact hj
      · exact ⟨⟨0, 0, 0, ⟨#[]⟩, 0, 0, ⟨#[]⟩, 0, 0, ⟨#[]⟩⟩, fun h => absurd h hin⟩
    have hF : ∃ f : Nat → Wr, ∀ i, i < n → (f i).fits ∧ ∀ j v, (f i).cells[j]? = some v → W.cell? (a.add (i * 10 + j)) = some v := ⟨fun i => Classical.choose (hx i), fun i => Classical.choose_spec (hx i)⟩
    obtain ⟨g, hg⟩ := hF
    refine ⟨some a, n, c, (List.range n).map g, rfl, by simp, fun k x hx => ?_, by omega, hl, fun x hx => ?_⟩
    · have hk : k < n := by
        have := (List.getElem?_eq_some_iff.1 hx).1
        simpa using this
      have e : x = g k := by
        rw [List.getElem?_map, List.getElem?_range hk] at hx
        injection hx with hx
        exact hx.symm
      subst e
      have hc := (hg k hk).2 0 _ rfl
      have hb := World.block_lt_of_cell? W _ hc
      rw [add_block] at hb
      exact ⟨a, rfl, hb, (hg k hk).2⟩
    · obtain ⟨k, hk, rfl⟩ := List.mem_map.1 hx
      exact (hg k (List.mem_range.1 hk)).1
end
end Go.Proofs.Ytgbopikhdpmmcaa
