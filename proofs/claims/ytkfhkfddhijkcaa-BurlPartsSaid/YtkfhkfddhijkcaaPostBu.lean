/-
  WHAT IS PROVED: an argument that is a burl: opened (own work, over any program that bears the types named).
-/
import Derived.Test.YtkfhkfddhijkcaaPostI
import Derived.Test.YtkfhkfddhijkcaaBuB
import Derived.Lib.SmallJoins
import Derived.Deep.Slices
namespace Go.Proofs.Ytkfhkfddhijkcaa
open Go.RowKit Go.WideShapes Go.ChangeShapes

section
open Go.Joins Go.Deep
variable {H : Type} {enc : TypeId × Value → H}
theorem cellsBu : Try.prog.cellsOf 70 = 17 := by kernel_rfl
theorem cellsA16 : Try.prog.cellsOf 68 = 16 := by kernel_rfl
theorem cellsU64c : Try.prog.cellsOf 54 = 1 := by kernel_rfl
theorem arr_getU {xs : List (DataW H × List MemPlace)} {n : Nat} (h : xs.length = n) {i : Nat} (hi : i < n) : ∃ y, xs[i]? = some y := ⟨xs[i], List.getElem?_eq_getElem (by omega)⟩
theorem trod_struct2U {P : Program} {w : World} {base : Nat} {spare : Nat → Bool} {held : Bool} {t : TypeId} {f0 f1 : Field} {fuel : Nat} {cs : List Value} {x : DataW H × List MemPlace} (ht : P.underlying t = some (.struct #[f0, f1])) (h : DataW.trod enc P w base spare held fuel t cs = some x) :
    ∃ n, (∃ y, DataW.trod enc P w base spare held n f0.type ((cs.drop f0.offset).take (P.cellsOf f0.type)) = some y) ∧ (∃ y, DataW.trod enc P w base spare held n f1.type ((cs.drop f1.offset).take (P.cellsOf f1.type)) = some y) := by
  obtain ⟨xs, n, _, rfl, _, hlen, hf⟩ := DataW.trod_struct ht h
  have hl : xs.length = 2 := hlen
  obtain ⟨y0, e0⟩ := arr_getU hl (i := 0) (by omega)
  obtain ⟨y1, e1⟩ := arr_getU hl (i := 1) (by omega)
  exact ⟨n, ⟨y0, (hf 0 f0 rfl).trans e0⟩, ⟨y1, (hf 1 f1 rfl).trans e1⟩⟩
theorem wf_u64n {n : Int} (h : (Lit.int .u64 n).wf = true) : ∃ k : Nat, n = (k : Int) ∧ k < 18446744073709551616 := by
  have e1 : IntKind.u64.min = 0 := rfl
  have e2 : IntKind.u64.max = 18446744073709551615 := rfl
  simp [Lit.wf, e1, e2] at h
  exact ⟨n.toNat, by omega, by omega⟩
set_option maxRecDepth 100000 in
/-- An argument that is a burl, opened. -/
theorem open_bu {W : World} {r : Reach} {b0 : Nat} {v : Value} {d : DataW H} {p : List MemPlace} (hv : Value.okWide Try.prog W r b0 70 v) (h : DataW.Trod enc Try.prog W 0 (fun _ => true) true 70 v d p) :
    ∃ (r : Nat) (L : List Nat), v = .agg (buC r L) ∧ L.length = 16 ∧ r < 18446744073709551616 ∧ ∀ x, x ∈ L → x < 18446744073709551616 := by
  obtain ⟨cs, rfl, hsz⟩ := okWide_struct Try.underlying70 hv
  obtain ⟨l⟩ := cs
  match l, hsz.trans cellsBu with
  | [c0, c1, c2, c3, c4, c5, c6, c7, c8, c9, c10, c11, c12, c13, c14, c15, c16], _ =>
    obtain ⟨fuel, hf⟩ := h
    obtain ⟨m, ⟨z0, hr⟩, ⟨z1, ha⟩⟩ := trod_struct2U Try.underlying70 hf
    simp only [Value.cells, cellsU64c, cellsA16, List.drop_zero, List.drop_succ_cons, List.take_succ_cons, List.take_zero] at hr ha
    obtain ⟨xs, m2, _, _, _, hl, hx⟩ := DataW.trod_array Try.underlying68 ha
    obtain ⟨y0, e0⟩ := arr_getU hl (i := 0) (by omega)
    have h0 := (hx 0 (by omega)).trans e0
    obtain ⟨y1, e1⟩ := arr_getU hl (i := 1) (by omega)
    have h1 := (hx 1 (by omega)).trans e1
    obtain ⟨y2, e2⟩ := arr_getU hl (i := 2) (by omega)
    have h2 := (hx 2 (by omega)).trans e2
    obtain ⟨y3, e3⟩ := arr_getU hl (i := 3) (by omega)
    have h3 := (hx 3 (by omega)).trans e3
    obtain ⟨y4, e4⟩ := arr_getU hl (i := 4) (by omega)
    have h4 := (hx 4 (by omega)).trans e4
    obtain ⟨y5, e5⟩ := arr_getU hl (i := 5) (by omega)
    have h5 := (hx 5 (by omega)).trans e5
    obtain ⟨y6, e6⟩ := arr_getU hl (i := 6) (by omega)
    have h6 := (hx 6 (by omega)).trans e6
    obtain ⟨y7, e7⟩ := arr_getU hl (i := 7) (by omega)
    have h7 := (hx 7 (by omega)).trans e7
    obtain ⟨y8, e8⟩ := arr_getU hl (i := 8) (by omega)
    have h8 := (hx 8 (by omega)).trans e8
    obtain ⟨y9, e9⟩ := arr_getU hl (i := 9) (by omega)
    have h9 := (hx 9 (by omega)).trans e9
    obtain ⟨y10, e10⟩ := arr_getU hl (i := 10) (by omega)
    have h10 := (hx 10 (by omega)).trans e10
    obtain ⟨y11, e11⟩ := arr_getU hl (i := 11) (by omega)
    have h11 := (hx 11 (by omega)).trans e11
    obtain ⟨y12, e12⟩ := arr_getU hl (i := 12) (by omega)
    have h12 := (hx 12 (by omega)).trans e12
    obtain ⟨y13, e13⟩ := arr_getU hl (i := 13) (by omega)
    have h13 := (hx 13 (by omega)).trans e13
    obtain ⟨y14, e14⟩ := arr_getU hl (i := 14) (by omega)
    have h14 := (hx 14 (by omega)).trans e14
    obtain ⟨y15, e15⟩ := arr_getU hl (i := 15) (by omega)
    have h15 := (hx 15 (by omega)).trans e15
    simp only [cellsU64c, Nat.mul_one, List.drop_zero, List.drop_succ_cons, List.take_succ_cons, List.take_zero] at h0 h1 h2 h3 h4 h5 h6 h7 h8 h9 h10 h11 h12 h13 h14 h15
    obtain ⟨kr, qr, _, wr⟩ := DataW.trod_int Try.underlying54 hr
    obtain ⟨k0, q0, _, w0⟩ := DataW.trod_int Try.underlying54 h0
    obtain ⟨k1, q1, _, w1⟩ := DataW.trod_int Try.underlying54 h1
    obtain ⟨k2, q2, _, w2⟩ := DataW.trod_int Try.underlying54 h2
    obtain ⟨k3, q3, _, w3⟩ := DataW.trod_int Try.underlying54 h3
    obtain ⟨k4, q4, _, w4⟩ := DataW.trod_int Try.underlying54 h4
    obtain ⟨k5, q5, _, w5⟩ := DataW.trod_int Try.underlying54 h5
    obtain ⟨k6, q6, _, w6⟩ := DataW.trod_int Try.underlying54 h6
    obtain ⟨k7, q7, _, w7⟩ := DataW.trod_int Try.underlying54 h7
    obtain ⟨k8, q8, _, w8⟩ := DataW.trod_int Try.underlying54 h8
    obtain ⟨k9, q9, _, w9⟩ := DataW.trod_int Try.underlying54 h9
    obtain ⟨k10, q10, _, w10⟩ := DataW.trod_int Try.underlying54 h10
    obtain ⟨k11, q11, _, w11⟩ := DataW.trod_int Try.underlying54 h11
    obtain ⟨k12, q12, _, w12⟩ := DataW.trod_int Try.underlying54 h12
    obtain ⟨k13, q13, _, w13⟩ := DataW.trod_int Try.underlying54 h13
    obtain ⟨k14, q14, _, w14⟩ := DataW.trod_int Try.underlying54 h14
    obtain ⟨k15, q15, _, w15⟩ := DataW.trod_int Try.underlying54 h15
    simp at qr q0 q1 q2 q3 q4 q5 q6 q7 q8 q9 q10 q11 q12 q13 q14 q15
    subst qr q0 q1 q2 q3 q4 q5 q6 q7 q8 q9 q10 q11 q12 q13 q14 q15
    obtain ⟨nr, rfl, br⟩ := wf_u64n wr
    obtain ⟨n0, rfl, b0⟩ := wf_u64n w0
    obtain ⟨n1, rfl, b1⟩ := wf_u64n w1
    obtain ⟨n2, rfl, b2⟩ := wf_u64n w2
    obtain ⟨n3, rfl, b3⟩ := wf_u64n w3
    obtain ⟨n4, rfl, b4⟩ := wf_u64n w4
    obtain ⟨n5, rfl, b5⟩ := wf_u64n w5
    obtain ⟨n6, rfl, b6⟩ := wf_u64n w6
    obtain ⟨n7, rfl, b7⟩ := wf_u64n w7
    obtain ⟨n8, rfl, b8⟩ := wf_u64n w8
    obtain ⟨n9, rfl, b9⟩ := wf_u64n w9
    obtain ⟨n10, rfl, b10⟩ := wf_u64n w10
    obtain ⟨n11, rfl, b11⟩ := wf_u64n w11
    obtain ⟨n12, rfl, b12⟩ := wf_u64n w12
    obtain ⟨n13, rfl, b13⟩ := wf_u64n w13
    obtain ⟨n14, rfl, b14⟩ := wf_u64n w14
    obtain ⟨n15, rfl, b15⟩ := wf_u64n w15
    refine ⟨nr, [n0, n1, n2, n3, n4, n5, n6, n7, n8, n9, n10, n11, n12, n13, n14, n15], rfl, rfl, br, fun x hx => ?_⟩
    simp only [List.mem_cons, List.not_mem_nil, or_false] at hx
    rcases hx with rfl | rfl | rfl | rfl | rfl | rfl | rfl | rfl | rfl | rfl | rfl | rfl | rfl | rfl | rfl | rfl <;> assumption
end
end Go.Proofs.Ytkfhkfddhijkcaa
