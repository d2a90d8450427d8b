/-
  WHAT IS PROVED: an argument that is a slice of chapter 14's acts: opened (own work, over any program that bears the types named).
-/
import Derived.Test.YtkfhkfddhijkcaaGQ3
import Derived.Test.YtkfhkfddhijkcaaPostF
import Derived.Test.YtkfhkfddhijkcaaQuH
import Derived.Test.YtkfhkfddhijkcaaRowX
import Derived.Lib.SmallJoins
import Derived.Deep.Slices
namespace Go.Proofs.Ytkfhkfddhijkcaa
open Go.RowKit Go.WideShapes Go.ChangeShapes

section
open Go.Joins Go.Deep
variable {H : Type} {enc : TypeId × Value → H}
theorem cellsAcQ : Try.prog.cellsOf 41 = 24 := by kernel_rfl
theorem cellsTrQ : Try.prog.cellsOf 29 = 12 := by kernel_rfl
theorem cellsWsQ : Try.prog.cellsOf 30 = 1 := by kernel_rfl
theorem arr_getQ {xs : List (DataW H × List MemPlace)} {n : Nat} (h : xs.length = n) {i : Nat} (hi : i < n) : ∃ y, xs[i]? = some y := ⟨xs[i], List.getElem?_eq_getElem (by omega)⟩
theorem trod_struct4Q {P : Program} {w : World} {base : Nat} {spare : Nat → Bool} {held : Bool} {t : TypeId} {f0 f1 f2 f3 : Field} {fuel : Nat} {cs : List Value} {x : DataW H × List MemPlace} (ht : P.underlying t = some (.struct #[f0, f1, f2, f3])) (h : DataW.trod enc P w base spare held fuel t cs = some x) :
    ∃ n, (∃ y, DataW.trod enc P w base spare held n f0.type ((cs.drop f0.offset).take (P.cellsOf f0.type)) = some y) ∧ (∃ y, DataW.trod enc P w base spare held n f1.type ((cs.drop f1.offset).take (P.cellsOf f1.type)) = some y) ∧ (∃ y, DataW.trod enc P w base spare held n f2.type ((cs.drop f2.offset).take (P.cellsOf f2.type)) = some y) ∧ (∃ y, DataW.trod enc P w base spare held n f3.type ((cs.drop f3.offset).take (P.cellsOf f3.type)) = some y) := by
  obtain ⟨xs, n, _, rfl, _, hlen, hf⟩ := DataW.trod_struct ht h
  have hl : xs.length = 4 := hlen
  obtain ⟨y0, e0⟩ := arr_getQ hl (i := 0) (by omega)
  obtain ⟨y1, e1⟩ := arr_getQ hl (i := 1) (by omega)
  obtain ⟨y2, e2⟩ := arr_getQ hl (i := 2) (by omega)
  obtain ⟨y3, e3⟩ := arr_getQ hl (i := 3) (by omega)
  exact ⟨n, ⟨y0, (hf 0 f0 rfl).trans e0⟩, ⟨y1, (hf 1 f1 rfl).trans e1⟩, ⟨y2, (hf 2 f2 rfl).trans e2⟩, ⟨y3, (hf 3 f3 rfl).trans e3⟩⟩
set_option maxRecDepth 100000 in
theorem open_rowQ {X : Type} (f : X → Array Value) (P : X → Prop) (x0 : X) {z : Nat} (hz : 0 < z) (hs : ∀ x, (f x).size = z) {t te : TypeId} (ht : Try.prog.underlying t = some (.slice te)) (hce : Try.prog.cellsOf te = z) {W : World}
    (hE : ∀ {base : Nat} {spare : Nat → Bool} {held : Bool} {fuel : Nat} {cs : List Value} {y : DataW H × List MemPlace}, cs.length = z → DataW.trod enc Try.prog W base spare held fuel te cs = some y → ∃ x : X, cs = (f x).toList ∧ P x)
    {r : Reach} {b0 : Nat} {v : Value} {d : DataW H} {p : List MemPlace} (hv : Value.okWide Try.prog W r b0 t v) (h : DataW.Trod enc Try.prog W 0 (fun _ => true) true t v d p) :
    ∃ (A : Option Addr) (n c : Nat) (l : List X), v = .slice A n c ∧ l.length = n ∧ RdX z W.heap.size W A (l.map f) ∧ n ≤ maxLen ∧ ∀ x, x ∈ l → P x := by
  obtain ⟨A, n, c, rfl⟩ := okWide_slice ht hv
  obtain ⟨fuel, hf⟩ := h
  rcases open_slice ht hf with ⟨hcs, _⟩ | ⟨a, len, cap, m, fu, D, Pl, hcs, _, hl, hm, hmm, _, hi⟩
  · simp [Value.cells] at hcs
    obtain ⟨rfl, rfl, rfl⟩ := hcs
    exact ⟨none, 0, 0, [], rfl, rfl, RdX.nil _ _ _ _, Nat.zero_le _, fun x hx => by simp at hx⟩
  · simp [Value.cells] at hcs
    obtain ⟨rfl, rfl, rfl⟩ := hcs
    have hle : n ≤ m := by rw [hmm]; simp; omega
    have hx : ∀ i, ∃ x : X, i < n → P x ∧ ∀ j v, (f x)[j]? = some v → W.cell? (a.add (i * z + j)) = some v := by
      intro i
      by_cases hin : i < n
      · obtain ⟨cs', hc, ht'⟩ := hi i (by omega)
        rw [hce] at hc
        obtain ⟨_, hlen, hcell⟩ := World.cells?_some hc
        obtain ⟨x, rfl, hfx⟩ := hE hlen ht'
        refine ⟨x, fun _ => ⟨hfx, fun j v hj => ?_⟩⟩
        have hj10 : j < z := by
          have := (Array.getElem?_eq_some_iff.1 hj).1
          rw [hs] at this
          exact this
        rw [← add_add', hcell j hj10, Array.getElem?_toList]
        exact hj
      · exact ⟨x0, fun h => absurd h hin⟩
    have hF : ∃ g : Nat → X, ∀ i, i < n → P (g i) ∧ ∀ j v, (f (g i))[j]? = some v → W.cell? (a.add (i * z + j)) = some v := ⟨fun i => Classical.choose (hx i), fun i => Classical.choose_spec (hx i)⟩
    obtain ⟨g, hg⟩ := hF
    refine ⟨some a, n, c, (List.range n).map g, rfl, by simp, fun k x hx => ?_, by omega, fun x hx => ?_⟩
    · have hk : k < n := by
        have := (List.getElem?_eq_some_iff.1 hx).1
        simpa using this
      have e : x = f (g k) := by
        rw [List.getElem?_map, List.getElem?_map, List.getElem?_range hk] at hx
        injection hx with hx
        exact hx.symm
      subst e
      have h0 : 0 < (f (g k)).size := by rw [hs]; exact hz
      have hc := (hg k hk).2 0 _ (Array.getElem?_eq_getElem h0)
      have hb := World.block_lt_of_cell? W _ hc
      rw [add_block] at hb
      exact ⟨a, rfl, hb, (hg k hk).2⟩
    · obtain ⟨k, hk, rfl⟩ := List.mem_map.1 hx
      exact (hg k (List.mem_range.1 hk)).1
set_option maxRecDepth 100000 in
theorem open_acQ {W : World} {base : Nat} {spare : Nat → Bool} {held : Bool} {fuel : Nat} {cs : List Value} {y : DataW H × List MemPlace} (hl : cs.length = 24) (h : DataW.trod enc Try.prog W base spare held fuel 41 cs = some y) : ∃ x : Qa, cs = x.cells.toList ∧ x.w.fits :=
  match cs, hl with
  | [c0, c1, c2, c3, c4, c5, c6, c7, c8, c9, c10, c11, c12, c13, c14, c15, c16, c17, c18, c19, c20, c21, c22, c23], _ => by
    obtain ⟨m, ⟨y0, h0⟩, ⟨y1, h1⟩, ⟨y2, h2⟩, ⟨y3, h3⟩⟩ := trod_struct4Q Try.underlying41 h
    simp only [cellsIw, cellsWw, cellsTrQ, cellsWsQ, List.drop_zero, List.drop_succ_cons, List.take_succ_cons, List.take_zero] at h0 h1 h2 h3
    obtain ⟨kd, e0, _, _⟩ := DataW.trod_int Try.underlying3 h0
    simp at e0
    subst e0
    obtain ⟨xw, hx, hf⟩ := open_wrW (by rfl) h1
    obtain ⟨us, m5, _, _, _, ul, ux⟩ := DataW.trod_array Try.underlying29 h2
    obtain ⟨w0, g0⟩ := arr_getQ ul (i := 0) (by omega)
    have t0 := (ux 0 (by omega)).trans g0
    obtain ⟨w1, g1⟩ := arr_getQ ul (i := 1) (by omega)
    have t1 := (ux 1 (by omega)).trans g1
    obtain ⟨w2, g2⟩ := arr_getQ ul (i := 2) (by omega)
    have t2 := (ux 2 (by omega)).trans g2
    obtain ⟨w3, g3⟩ := arr_getQ ul (i := 3) (by omega)
    have t3 := (ux 3 (by omega)).trans g3
    obtain ⟨w4, g4⟩ := arr_getQ ul (i := 4) (by omega)
    have t4 := (ux 4 (by omega)).trans g4
    obtain ⟨w5, g5⟩ := arr_getQ ul (i := 5) (by omega)
    have t5 := (ux 5 (by omega)).trans g5
    obtain ⟨w6, g6⟩ := arr_getQ ul (i := 6) (by omega)
    have t6 := (ux 6 (by omega)).trans g6
    obtain ⟨w7, g7⟩ := arr_getQ ul (i := 7) (by omega)
    have t7 := (ux 7 (by omega)).trans g7
    obtain ⟨w8, g8⟩ := arr_getQ ul (i := 8) (by omega)
    have t8 := (ux 8 (by omega)).trans g8
    obtain ⟨w9, g9⟩ := arr_getQ ul (i := 9) (by omega)
    have t9 := (ux 9 (by omega)).trans g9
    obtain ⟨w10, g10⟩ := arr_getQ ul (i := 10) (by omega)
    have t10 := (ux 10 (by omega)).trans g10
    obtain ⟨w11, g11⟩ := arr_getQ ul (i := 11) (by omega)
    have t11 := (ux 11 (by omega)).trans g11
    simp only [cellsIw, Nat.mul_one, List.drop_zero, List.drop_succ_cons, List.take_succ_cons, List.take_zero] at t0 t1 t2 t3 t4 t5 t6 t7 t8 t9 t10 t11
    obtain ⟨k0, q0, _, _⟩ := DataW.trod_int Try.underlying3 t0
    obtain ⟨k1, q1, _, _⟩ := DataW.trod_int Try.underlying3 t1
    obtain ⟨k2, q2, _, _⟩ := DataW.trod_int Try.underlying3 t2
    obtain ⟨k3, q3, _, _⟩ := DataW.trod_int Try.underlying3 t3
    obtain ⟨k4, q4, _, _⟩ := DataW.trod_int Try.underlying3 t4
    obtain ⟨k5, q5, _, _⟩ := DataW.trod_int Try.underlying3 t5
    obtain ⟨k6, q6, _, _⟩ := DataW.trod_int Try.underlying3 t6
    obtain ⟨k7, q7, _, _⟩ := DataW.trod_int Try.underlying3 t7
    obtain ⟨k8, q8, _, _⟩ := DataW.trod_int Try.underlying3 t8
    obtain ⟨k9, q9, _, _⟩ := DataW.trod_int Try.underlying3 t9
    obtain ⟨k10, q10, _, _⟩ := DataW.trod_int Try.underlying3 t10
    obtain ⟨k11, q11, _, _⟩ := DataW.trod_int Try.underlying3 t11
    simp at q0 q1 q2 q3 q4 q5 q6 q7 q8 q9 q10 q11
    subst q0 q1 q2 q3 q4 q5 q6 q7 q8 q9 q10 q11
    have hs : ∃ (A : Option Addr) (n c : Nat), c23 = .slice A n c := by
      rcases open_slice Try.underlying30 h3 with ⟨hcs, _⟩ | ⟨a, len, cap, mm, fu, D, Pl, hcs, _⟩
      · exact ⟨none, 0, 0, by simpa using hcs⟩
      · exact ⟨some a, len, cap, by simpa using hcs⟩
    obtain ⟨A, n, c, rfl⟩ := hs
    refine ⟨⟨kd, xw, k0, k1, k2, k3, k4, k5, k6, k7, k8, k9, k10, k11, A, n, c⟩, ?_, hf⟩
    have hx2 : [c1, c2, c3, c4, c5, c6, c7, c8, c9, c10] = xw.cells.toList := hx
    simp [Wr.cells, wrI] at hx2
    obtain ⟨rfl, rfl, rfl, rfl, rfl, rfl, rfl, rfl, rfl, rfl⟩ := hx2
    rfl
set_option maxRecDepth 100000 in
theorem open_actsQ {t : TypeId} (ht : Try.prog.underlying t = some (.slice 41)) {W : World} {r : Reach} {b0 : Nat} {v : Value} {d : DataW H} {p : List MemPlace} (hv : Value.okWide Try.prog W r b0 t v) (h : DataW.Trod enc Try.prog W 0 (fun _ => true) true t v d p) :
    ∃ (A : Option Addr) (n c : Nat) (l : List Qa), v = .slice A n c ∧ l.length = n ∧ RdX 24 W.heap.size W A (l.map Qa.cells) ∧ n ≤ maxLen ∧ ∀ x, x ∈ l → x.w.fits :=
  open_rowQ Qa.cells (fun x => x.w.fits) qa0 (by omega) (fun _ => rfl) ht cellsAcQ (fun hl h => open_acQ hl h) hv h
end
end Go.Proofs.Ytkfhkfddhijkcaa
