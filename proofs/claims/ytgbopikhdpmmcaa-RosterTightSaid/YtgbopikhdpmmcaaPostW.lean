/-
  WHAT IS PROVED: an argument that is a slice of writes, opened (own work, over any program that bears the types named).
-/
import Derived.Test.YtgbopikhdpmmcaaPostB
import Derived.Test.YtgbopikhdpmmcaaWrs2
import Derived.Lib.SmallJoins
import Derived.Deep.Slices
namespace Go.Proofs.Ytgbopikhdpmmcaa
open Go.RowKit Go.WideShapes Go.ChangeShapes

section
open Go.Joins Go.Deep
variable {H : Type} {enc : TypeId × Value → H}
theorem cellsWw : Try.prog.cellsOf 51 = 10 := by kernel_rfl
theorem cellsOw : Try.prog.cellsOf 49 = 8 := by kernel_rfl
theorem cellsDw : Try.prog.cellsOf 26 = 2 := by kernel_rfl
theorem cellsVw : Try.prog.cellsOf 47 = 3 := by kernel_rfl
theorem cellsIw : Try.prog.cellsOf 3 = 1 := by kernel_rfl
theorem cellsKw : Try.prog.cellsOf 45 = 1 := by kernel_rfl
theorem cellsSw : Try.prog.cellsOf 9 = 1 := by kernel_rfl

set_option maxRecDepth 100000 in
theorem open_valW {W : World} {base : Nat} {spare : Nat → Bool} {held : Bool} {fuel : Nat} {c0 c1 c2 : Value} {y : DataW H × List MemPlace} (h : DataW.trod enc Try.prog W base spare held fuel 47 [c0, c1, c2] = some y) :
    ∃ (k n : Int) (s : ByteArray), c0 = .int .i64 k ∧ c1 = .int .i64 n ∧ c2 = .string s ∧ (Lit.int .i64 n).wf = true ∧ s.size ≤ maxLen := by
  obtain ⟨y0, y1, y2, m, rfl, _, h0, h1, h2⟩ := trod_struct3 Try.underlying47 h
  simp only [cellsIw, cellsKw, cellsSw, List.drop_zero, List.drop_succ_cons, List.take_succ_cons, List.take_zero] at h0 h1 h2
  obtain ⟨k, e0, rfl, wk⟩ := DataW.trod_int Try.underlying45 h0
  obtain ⟨n, e1, rfl, wn⟩ := DataW.trod_int Try.underlying3 h1
  obtain ⟨s, e2, rfl, ws⟩ := DataW.trod_string Try.underlying9 h2
  simp at e0 e1 e2
  subst e0 e1 e2
  exact ⟨k, n, s, rfl, rfl, rfl, wn, ws⟩
set_option maxRecDepth 100000 in
theorem open_opW {W : World} {base : Nat} {spare : Nat → Bool} {held : Bool} {fuel : Nat} {c0 c1 c2 c3 c4 c5 c6 c7 : Value} {y : DataW H × List MemPlace} (h : DataW.trod enc Try.prog W base spare held fuel 49 [c0, c1, c2, c3, c4, c5, c6, c7] = some y) :
    ∃ (K : Int) (ky : ByteArray) (ka na : Int) (sa : ByteArray) (kb nb : Int) (sb : ByteArray), c0 = .int .i64 K ∧ c1 = .string ky ∧ c2 = .int .i64 ka ∧ c3 = .int .i64 na ∧ c4 = .string sa ∧ c5 = .int .i64 kb ∧ c6 = .int .i64 nb ∧ c7 = .string sb ∧
      ky.size ≤ maxLen ∧ (Lit.int .i64 na).wf = true ∧ sa.size ≤ maxLen ∧ (Lit.int .i64 nb).wf = true ∧ sb.size ≤ maxLen := by
  obtain ⟨y0, y1, y2, y3, n, _, _, h0, h1, h2, h3⟩ := trod_struct4 Try.underlying49 h
  simp only [cellsIw, cellsSw, cellsVw, List.drop_zero, List.drop_succ_cons, List.take_succ_cons, List.take_zero] at h0 h1 h2 h3
  obtain ⟨K, e0, rfl, wK⟩ := DataW.trod_int Try.underlying3 h0
  obtain ⟨ky, e1, rfl, wky⟩ := DataW.trod_string Try.underlying9 h1
  simp at e0 e1
  subst e0 e1
  obtain ⟨ka, na, sa, rfl, rfl, rfl, wna, wsa⟩ := open_valW h2
  obtain ⟨kb, nb, sb, rfl, rfl, rfl, wnb, wsb⟩ := open_valW h3
  exact ⟨K, ky, ka, na, sa, kb, nb, sb, rfl, rfl, rfl, rfl, rfl, rfl, rfl, rfl, wky, wna, wsa, wnb, wsb⟩
set_option maxRecDepth 100000 in
/-- Ten cells that read as a write. -/
theorem open_wrW {W : World} {base : Nat} {spare : Nat → Bool} {held : Bool} {fuel : Nat} {cs : List Value} {y : DataW H × List MemPlace} (hl : cs.length = 10) (h : DataW.trod enc Try.prog W base spare held fuel 51 cs = some y) : ∃ x : Wr, cs = x.cells.toList ∧ x.fits := by
  match cs, hl with
  | [c0, c1, c2, c3, c4, c5, c6, c7, c8, c9], _ =>
    obtain ⟨y0, y1, n, _, _, h0, h1⟩ := trod_struct2 Try.underlying51 h
    simp only [cellsDw, cellsOw, List.drop_zero, List.drop_succ_cons, List.take_succ_cons, List.take_zero] at h0 h1
    obtain ⟨z0, z1, n2, _, _, k0, k1⟩ := trod_struct2 Try.underlying26 h0
    simp only [cellsIw, List.drop_zero, List.drop_succ_cons, List.take_succ_cons, List.take_zero] at k0 k1
    obtain ⟨dev, e0, rfl, _⟩ := DataW.trod_int Try.underlying3 k0
    obtain ⟨seq, e1, rfl, _⟩ := DataW.trod_int Try.underlying3 k1
    simp at e0 e1
    subst e0 e1
    obtain ⟨K, ky, ka, na, sa, kb, nb, sb, rfl, rfl, rfl, rfl, rfl, rfl, rfl, rfl, wky, wna, wsa, wnb, wsb⟩ := open_opW h1
    exact ⟨⟨dev, seq, K, ky, ka, na, sa, kb, nb, sb⟩, rfl, wky, wsa, wsb, wf_i64 wna, wf_i64 wnb⟩
set_option maxRecDepth 100000 in
/-- An argument that is a slice of writes, opened. -/
theorem open_wrl {t : TypeId} (ht : Try.prog.underlying t = some (.slice 51)) {W : World} {r : Reach} {b0 : Nat} {v : Value} {d : DataW H} {p : List MemPlace} (hv : Value.okWide Try.prog W r b0 t v) (h : DataW.Trod enc Try.prog W 0 (fun _ => true) true t v d p) :
    ∃ (A : Option Addr) (n c : Nat) (l : List Wr), v = .slice A n c ∧ l.length = n ∧ RdW W.heap.size W A l ∧ n ≤ maxLen ∧ ∀ x, x ∈ l → x.fits := by
  obtain ⟨A, n, c, rfl⟩ := okWide_slice ht hv
  obtain ⟨fuel, hf⟩ := h
  rcases open_slice ht hf with ⟨hcs, _⟩ | ⟨a, len, cap, m, f, D, Pl, hcs, _, hl, hm, hmm, _, hi⟩
  · simp [Value.cells] at hcs
    obtain ⟨rfl, rfl, rfl⟩ := hcs
    exact ⟨none, 0, 0, [], rfl, rfl, RdW.nil _ _ _, Nat.zero_le _, fun x hx => by simp at hx⟩
  · simp [Value.cells] at hcs
    obtain ⟨rfl, rfl, rfl⟩ := hcs
    have hle : n ≤ m := by rw [hmm]; simp; omega
    have hx : ∀ i, ∃ x : Wr, i < n → x.fits ∧ ∀ j v, x.cells[j]? = some v → W.cell? (a.add (i * 10 + j)) = some v := by
      intro i
      by_cases hin : i < n
      · obtain ⟨cs', hc, ht'⟩ := hi i (by omega)
        rw [cellsWw] at hc
        obtain ⟨_, hlen, hcell⟩ := World.cells?_some hc
        obtain ⟨x, rfl, hfx⟩ := open_wrW hlen ht'
        refine ⟨x, fun _ => ⟨hfx, fun j v hj => ?_⟩⟩
        have hj10 : j < 10 := by
          have := (Array.getElem?_eq_some_iff.1 hj).1
          simpa using this
        rw [← add_add', hcell j hj10, Array.getElem?_toList]
        exact hj
      · exact ⟨⟨0, 0, 0, ⟨#[]⟩, 0, 0, ⟨#[]⟩, 0, 0, ⟨#[]⟩⟩, fun h => absurd h hin⟩
    have hF : ∃ f : Nat → Wr, ∀ i, i < n → (f i).fits ∧ ∀ j v, (f i).cells[j]? = some v → W.cell? (a.add (i * 10 + j)) = some v := ⟨fun i => Classical.choose (hx i), fun i => Classical.choose_spec (hx i)⟩
    obtain ⟨g, hg⟩ := hF
    refine ⟨some a, n, c, (List.range n).map g, rfl, by simp, fun k x hx => ?_, by omega, fun x hx => ?_⟩
    · have hk : k < n := by
        have := (List.getElem?_eq_some_iff.1 hx).1
        simpa using this
      have e : x = g k := by
        rw [List.getElem?_map, List.getElem?_range hk] at hx
        injection hx with hx
        exact hx.symm
      subst e
      have hc := (hg k hk).2 0 _ rfl
      have hb := World.block_lt_of_cell? W _ hc
      rw [add_block] at hb
      exact ⟨a, rfl, hb, (hg k hk).2⟩
    · obtain ⟨k, hk, rfl⟩ := List.mem_map.1 hx
      exact (hg k (List.mem_range.1 hk)).1
end
end Go.Proofs.Ytgbopikhdpmmcaa
