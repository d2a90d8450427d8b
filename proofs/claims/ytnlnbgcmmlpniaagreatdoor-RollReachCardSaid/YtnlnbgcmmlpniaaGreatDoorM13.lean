/-
  WHAT IS PROVED: an argument that is a slice of writes, opened (own work, over any program that bears the types named). · arguments that are a slice of cells, a slice of lines, twelve numbers: opened (own work, over any program that bears the types named). · words for a block of twelve cells that stays (own work, over any program).
-/
import Derived.Test.YtnlnbgcmmlpniaaGreatDoorM0
import Derived.Test.YtnlnbgcmmlpniaaGreatDoorM2
import Derived.Lib.SmallJoins
import Derived.Deep.Slices
import Derived.Test.YtnlnbgcmmlpniaaGreatDoorM7
import Derived.Test.YtnlnbgcmmlpniaaGreatDoorM8
import Derived.Deep.MidRow
namespace Go.Proofs.YtnlnbgcmmlpniaaGreatDoor
open Go.RowKit Go.WideShapes Go.ChangeShapes

section
open Go.Joins Go.Deep
variable {H : Type} {enc : TypeId × Value → H}
theorem cellsWw : Tryz.prog.cellsOf 63 = 10 := by kernel_rfl
theorem cellsOw : Tryz.prog.cellsOf 61 = 8 := by kernel_rfl
theorem cellsDw : Tryz.prog.cellsOf 56 = 2 := by kernel_rfl
theorem cellsVw : Tryz.prog.cellsOf 59 = 3 := by kernel_rfl
theorem cellsIw : Tryz.prog.cellsOf 3 = 1 := by kernel_rfl
theorem cellsKw : Tryz.prog.cellsOf 57 = 1 := by kernel_rfl
theorem cellsSw : Tryz.prog.cellsOf 9 = 1 := by kernel_rfl

set_option maxRecDepth 100000 in
theorem open_valW {W : World} {base : Nat} {spare : Nat → Bool} {held : Bool} {fuel : Nat} {c0 c1 c2 : Value} {y : DataW H × List MemPlace} (h : DataW.trod enc Tryz.prog W base spare held fuel 59 [c0, c1, c2] = some y) :
    ∃ (k n : Int) (s : ByteArray), c0 = .int .i64 k ∧ c1 = .int .i64 n ∧ c2 = .string s ∧ (Lit.int .i64 n).wf = true ∧ s.size ≤ maxLen := by
  obtain ⟨y0, y1, y2, m, rfl, _, h0, h1, h2⟩ := trod_struct3 Tryz.underlying59 h
  simp only [cellsIw, cellsKw, cellsSw, List.drop_zero, List.drop_succ_cons, List.take_succ_cons, List.take_zero] at h0 h1 h2
  obtain ⟨k, e0, rfl, wk⟩ := DataW.trod_int Tryz.underlying57 h0
  obtain ⟨n, e1, rfl, wn⟩ := DataW.trod_int Tryz.underlying3 h1
  obtain ⟨s, e2, rfl, ws⟩ := DataW.trod_string Tryz.underlying9 h2
  simp at e0 e1 e2
  subst e0 e1 e2
  exact ⟨k, n, s, rfl, rfl, rfl, wn, ws⟩
set_option maxRecDepth 100000 in
theorem open_opW {W : World} {base : Nat} {spare : Nat → Bool} {held : Bool} {fuel : Nat} {c0 c1 c2 c3 c4 c5 c6 c7 : Value} {y : DataW H × List MemPlace} (h : DataW.trod enc Tryz.prog W base spare held fuel 61 [c0, c1, c2, c3, c4, c5, c6, c7] = some y) :
    ∃ (K : Int) (ky : ByteArray) (ka na : Int) (sa : ByteArray) (kb nb : Int) (sb : ByteArray), c0 = .int .i64 K ∧ c1 = .string ky ∧ c2 = .int .i64 ka ∧ c3 = .int .i64 na ∧ c4 = .string sa ∧ c5 = .int .i64 kb ∧ c6 = .int .i64 nb ∧ c7 = .string sb ∧
      ky.size ≤ maxLen ∧ (Lit.int .i64 na).wf = true ∧ sa.size ≤ maxLen ∧ (Lit.int .i64 nb).wf = true ∧ sb.size ≤ maxLen := by
  obtain ⟨y0, y1, y2, y3, n, _, _, h0, h1, h2, h3⟩ := trod_struct4 Tryz.underlying61 h
  simp only [cellsIw, cellsSw, cellsVw, List.drop_zero, List.drop_succ_cons, List.take_succ_cons, List.take_zero] at h0 h1 h2 h3
  obtain ⟨K, e0, rfl, wK⟩ := DataW.trod_int Tryz.underlying3 h0
  obtain ⟨ky, e1, rfl, wky⟩ := DataW.trod_string Tryz.underlying9 h1
  simp at e0 e1
  subst e0 e1
  obtain ⟨ka, na, sa, rfl, rfl, rfl, wna, wsa⟩ := open_valW h2
  obtain ⟨kb, nb, sb, rfl, rfl, rfl, wnb, wsb⟩ := open_valW h3
  exact ⟨K, ky, ka, na, sa, kb, nb, sb, rfl, rfl, rfl, rfl, rfl, rfl, rfl, rfl, wky, wna, wsa, wnb, wsb⟩
set_option maxRecDepth 100000 in
/-- Ten cells that read as a write. -/
theorem open_wrW {W : World} {base : Nat} {spare : Nat → Bool} {held : Bool} {fuel : Nat} {cs : List Value} {y : DataW H × List MemPlace} (hl : cs.length = 10) (h : DataW.trod enc Tryz.prog W base spare held fuel 63 cs = some y) : ∃ x : Wr, cs = x.cells.toList ∧ x.fits := by
  match cs, hl with
  | [c0, c1, c2, c3, c4, c5, c6, c7, c8, c9], _ =>
    obtain ⟨y0, y1, n, _, _, h0, h1⟩ := trod_struct2 Tryz.underlying63 h
    simp only [cellsDw, cellsOw, List.drop_zero, List.drop_succ_cons, List.take_succ_cons, List.take_zero] at h0 h1
    obtain ⟨z0, z1, n2, _, _, k0, k1⟩ := trod_struct2 Tryz.underlying56 h0
    simp only [cellsIw, List.drop_zero, List.drop_succ_cons, List.take_succ_cons, List.take_zero] at k0 k1
    obtain ⟨dev, e0, rfl, _⟩ := DataW.trod_int Tryz.underlying3 k0
    obtain ⟨seq, e1, rfl, _⟩ := DataW.trod_int Tryz.underlying3 k1
    simp at e0 e1
    subst e0 e1
    obtain ⟨K, ky, ka, na, sa, kb, nb, sb, rfl, rfl, rfl, rfl, rfl, rfl, rfl, rfl, wky, wna, wsa, wnb, wsb⟩ := open_opW h1
    exact ⟨⟨dev, seq, K, ky, ka, na, sa, kb, nb, sb⟩, rfl, wky, wsa, wsb, wf_i64 wna, wf_i64 wnb⟩
set_option maxRecDepth 100000 in
/-- An argument that is a slice of writes, opened. -/
theorem open_wrl {t : TypeId} (ht : Tryz.prog.underlying t = some (.slice 63)) {W : World} {r : Reach} {b0 : Nat} {v : Value} {d : DataW H} {p : List MemPlace} (hv : Value.okWide Tryz.prog W r b0 t v) (h : DataW.Trod enc Tryz.prog W 0 (fun _ => true) true t v d p) :
    ∃ (A : Option Addr) (n c : Nat) (l : List Wr), v = .slice A n c ∧ l.length = n ∧ RdW W.heap.size W A l ∧ n ≤ maxLen ∧ ∀ x, x ∈ l → x.fits := by
  obtain ⟨A, n, c, rfl⟩ := okWide_slice ht hv
  obtain ⟨fuel, hf⟩ := h
  rcases open_slice ht hf with ⟨hcs, _⟩ | ⟨a, len, cap, m, f, D, Pl, hcs, _, hl, hm, hmm, _, hi⟩
  · simp [Value.cells] at hcs
    obtain ⟨rfl, rfl, rfl⟩ := hcs
    exact ⟨none, 0, 0, [], rfl, rfl, RdW.nil _ _ _, Nat.zero_le _, fun x hx => by simp at hx⟩
  · simp [Value.cells] at hcs
    obtain ⟨rfl, rfl, rfl⟩ := hcs
    have hle : n ≤ m := by rw [hmm]; simp; omega
    have hx : ∀ i, ∃ x : Wr, i < n → x.fits ∧ ∀ j v, x.cells[j]? = some v → W.cell? (a.add (i * 10 + j)) = some v := by
      intro i
      by_cases hin : i < n
      · obtain ⟨cs', hc, ht'⟩ := hi i (by omega)
        rw [cellsWw] at hc
        obtain ⟨_, hlen, hcell⟩ := World.cells?_some hc
        obtain ⟨x, rfl, hfx⟩ := open_wrW hlen ht'
        refine ⟨x, fun _ => ⟨hfx, fun j v hj => ?_⟩⟩
        have hj10 : j < 10 := by
          have := (Array.getElem?_eq_some_iff.1 hj).1
          simpa using this
        rw [← add_add', hcell j hj10, Array.getElem?_toList]
        exact hj
      · exact ⟨⟨0, 0, 0, ⟨#[]⟩, 0, 0, ⟨#[]⟩, 0, 0, ⟨#[]⟩⟩, fun h => absurd h hin⟩
    have hF : ∃ f : Nat → Wr, ∀ i, i < n → (f i).fits ∧ ∀ j v, (f i).cells[j]? = some v → W.cell? (a.add (i * 10 + j)) = some v := ⟨fun i => Classical.choose (hx i), fun i => Classical.choose_spec (hx i)⟩
    obtain ⟨g, hg⟩ := hF
    refine ⟨some a, n, c, (List.range n).map g, rfl, by simp, fun k x hx => ?_, by omega, fun x hx => ?_⟩
    · have hk : k < n := by
        have := (List.getElem?_eq_some_iff.1 hx).1
        simpa using this
      have e : x = g k := by
        rw [List.getElem?_map, List.getElem?_range hk] at hx
        injection hx with hx
        exact hx.symm
      subst e
      have hc := (hg k hk).2 0 _ rfl
      have hb := World.block_lt_of_cell? W _ hc
      rw [add_block] at hb
      exact ⟨a, rfl, hb, (hg k hk).2⟩
    · obtain ⟨k, hk, rfl⟩ := List.mem_map.1 hx
      exact (hg k (List.mem_range.1 hk)).1
end
end Go.Proofs.YtnlnbgcmmlpniaaGreatDoor

namespace Go.Proofs.YtnlnbgcmmlpniaaGreatDoor
open Go.RowKit Go.WideShapes Go.ChangeShapes

theorem okWide_arrR {P : Program} {w : World} {r : Reach} {base n : Nat} {t e : TypeId} {v : Value} (ht : P.underlying t = some (.array n e)) (h : Value.okWide P w r base t v) : ∃ cs, v = .agg cs ∧ cs.size = P.cellsOf t := by
  simp only [Value.okWide, ht] at h
  obtain ⟨cs, h1, h2, _⟩ := h
  exact ⟨cs, h1, h2⟩
section
open Go.Joins Go.Deep
variable {H : Type} {enc : TypeId × Value → H}
theorem cellsCr : Tryz.prog.cellsOf 128 = 4 := by kernel_rfl
theorem cellsLr : Tryz.prog.cellsOf 65 = 11 := by kernel_rfl
theorem cellsTr : Tryz.prog.cellsOf 25 = 12 := by kernel_rfl
theorem arr_getR {xs : List (DataW H × List MemPlace)} {n : Nat} (h : xs.length = n) {i : Nat} (hi : i < n) : ∃ y, xs[i]? = some y := ⟨xs[i], List.getElem?_eq_getElem (by omega)⟩
set_option maxRecDepth 100000 in
/-- An argument that is a slice of elements of z cells each, opened. -/
theorem open_rowX {X : Type} (f : X → Array Value) (P : X → Prop) (x0 : X) {z : Nat} (hz : 0 < z) (hs : ∀ x, (f x).size = z) {t te : TypeId} (ht : Tryz.prog.underlying t = some (.slice te)) (hce : Tryz.prog.cellsOf te = z) {W : World}
    (hE : ∀ {base : Nat} {spare : Nat → Bool} {held : Bool} {fuel : Nat} {cs : List Value} {y : DataW H × List MemPlace}, cs.length = z → DataW.trod enc Tryz.prog W base spare held fuel te cs = some y → ∃ x : X, cs = (f x).toList ∧ P x)
    {r : Reach} {b0 : Nat} {v : Value} {d : DataW H} {p : List MemPlace} (hv : Value.okWide Tryz.prog W r b0 t v) (h : DataW.Trod enc Tryz.prog W 0 (fun _ => true) true t v d p) :
    ∃ (A : Option Addr) (n c : Nat) (l : List X), v = .slice A n c ∧ l.length = n ∧ RdX z W.heap.size W A (l.map f) ∧ n ≤ maxLen ∧ ∀ x, x ∈ l → P x := by
  obtain ⟨A, n, c, rfl⟩ := okWide_slice ht hv
  obtain ⟨fuel, hf⟩ := h
  rcases open_slice ht hf with ⟨hcs, _⟩ | ⟨a, len, cap, m, fu, D, Pl, hcs, _, hl, hm, hmm, _, hi⟩
  · simp [Value.cells] at hcs
    obtain ⟨rfl, rfl, rfl⟩ := hcs
    exact ⟨none, 0, 0, [], rfl, rfl, RdX.nil _ _ _ _, Nat.zero_le _, fun x hx => by simp at hx⟩
  · simp [Value.cells] at hcs
    obtain ⟨rfl, rfl, rfl⟩ := hcs
    have hle : n ≤ m := by rw [hmm]; simp; omega
    have hx : ∀ i, ∃ x : X, i < n → P x ∧ ∀ j v, (f x)[j]? = some v → W.cell? (a.add (i * z + j)) = some v := by
      intro i
      by_cases hin : i < n
      · obtain ⟨cs', hc, ht'⟩ := hi i (by omega)
        rw [hce] at hc
        obtain ⟨_, hlen, hcell⟩ := World.cells?_some hc
        obtain ⟨x, rfl, hfx⟩ := hE hlen ht'
        refine ⟨x, fun _ => ⟨hfx, fun j v hj => ?_⟩⟩
        have hj10 : j < z := by
          have := (Array.getElem?_eq_some_iff.1 hj).1
          rw [hs] at this
          exact this
        rw [← add_add', hcell j hj10, Array.getElem?_toList]
        exact hj
      · exact ⟨x0, fun h => absurd h hin⟩
    have hF : ∃ g : Nat → X, ∀ i, i < n → P (g i) ∧ ∀ j v, (f (g i))[j]? = some v → W.cell? (a.add (i * z + j)) = some v := ⟨fun i => Classical.choose (hx i), fun i => Classical.choose_spec (hx i)⟩
    obtain ⟨g, hg⟩ := hF
    refine ⟨some a, n, c, (List.range n).map g, rfl, by simp, fun k x hx => ?_, by omega, fun x hx => ?_⟩
    · have hk : k < n := by
        have := (List.getElem?_eq_some_iff.1 hx).1
        simpa using this
      have e : x = f (g k) := by
        rw [List.getElem?_map, List.getElem?_map, List.getElem?_range hk] at hx
        injection hx with hx
        exact hx.symm
      subst e
      have h0 : 0 < (f (g k)).size := by rw [hs]; exact hz
      have hc := (hg k hk).2 0 _ (Array.getElem?_eq_getElem h0)
      have hb := World.block_lt_of_cell? W _ hc
      rw [add_block] at hb
      exact ⟨a, rfl, hb, (hg k hk).2⟩
    · obtain ⟨k, hk, rfl⟩ := List.mem_map.1 hx
      exact (hg k (List.mem_range.1 hk)).1
set_option maxRecDepth 100000 in
/-- Four cells that read as a cell. -/
theorem open_clR {W : World} {base : Nat} {spare : Nat → Bool} {held : Bool} {fuel : Nat} {cs : List Value} {y : DataW H × List MemPlace} (hl : cs.length = 4) (h : DataW.trod enc Tryz.prog W base spare held fuel 128 cs = some y) : ∃ x : Cl, cs = x.cells.toList ∧ x.fits := by
  match cs, hl with
  | [c0, c1, c2, c3], _ =>
    obtain ⟨y0, y1, n, _, _, h0, h1⟩ := trod_struct2 Tryz.underlying128 h
    simp only [cellsSw, cellsVw, List.drop_zero, List.drop_succ_cons, List.take_succ_cons, List.take_zero] at h0 h1
    obtain ⟨ky, e0, rfl, wk⟩ := DataW.trod_string Tryz.underlying9 h0
    simp at e0
    subst e0
    obtain ⟨k, n, s, rfl, rfl, rfl, wn, ws⟩ := open_valW h1
    exact ⟨⟨ky, k, n, s⟩, rfl, wk, ws, (wf_i64 wn).1, (wf_i64 wn).2⟩
set_option maxRecDepth 100000 in
theorem open_cells {t : TypeId} (ht : Tryz.prog.underlying t = some (.slice 128)) {W : World} {r : Reach} {b0 : Nat} {v : Value} {d : DataW H} {p : List MemPlace} (hv : Value.okWide Tryz.prog W r b0 t v) (h : DataW.Trod enc Tryz.prog W 0 (fun _ => true) true t v d p) :
    ∃ (A : Option Addr) (n c : Nat) (l : List Cl), v = .slice A n c ∧ l.length = n ∧ RdX 4 W.heap.size W A (l.map Cl.cells) ∧ n ≤ maxLen ∧ ∀ x, x ∈ l → x.fits :=
  open_rowX Cl.cells Cl.fits ⟨⟨#[]⟩, 0, 0, ⟨#[]⟩⟩ (by omega) (fun _ => rfl) ht cellsCr (fun hl h => open_clR hl h) hv h
set_option maxRecDepth 100000 in
/-- Eleven cells that read as a line. -/
theorem open_lnR {W : World} {base : Nat} {spare : Nat → Bool} {held : Bool} {fuel : Nat} {cs : List Value} {y : DataW H × List MemPlace} (hl : cs.length = 11) (h : DataW.trod enc Tryz.prog W base spare held fuel 65 cs = some y) : ∃ x : Ln, cs = x.cells.toList ∧ x.fits := by
  match cs, hl with
  | [c0, c1, c2, c3, c4, c5, c6, c7, c8, c9, c10], _ =>
    obtain ⟨y0, y1, n, _, _, h0, h1⟩ := trod_struct2 Tryz.underlying65 h
    simp only [cellsIw, cellsWw, List.drop_zero, List.drop_succ_cons, List.take_succ_cons, List.take_zero] at h0 h1
    obtain ⟨pl, e0, rfl, _⟩ := DataW.trod_int Tryz.underlying3 h0
    simp at e0
    subst e0
    obtain ⟨x, hx, hf⟩ := open_wrW (by rfl) h1
    exact ⟨⟨pl, x⟩, by rw [hx], hf⟩
set_option maxRecDepth 100000 in
theorem open_lines {t : TypeId} (ht : Tryz.prog.underlying t = some (.slice 65)) {W : World} {r : Reach} {b0 : Nat} {v : Value} {d : DataW H} {p : List MemPlace} (hv : Value.okWide Tryz.prog W r b0 t v) (h : DataW.Trod enc Tryz.prog W 0 (fun _ => true) true t v d p) :
    ∃ (A : Option Addr) (n c : Nat) (l : List Ln), v = .slice A n c ∧ l.length = n ∧ RdX 11 W.heap.size W A (l.map Ln.cells) ∧ n ≤ maxLen ∧ ∀ x, x ∈ l → x.fits :=
  open_rowX Ln.cells Ln.fits ⟨0, ⟨0, 0, 0, ⟨#[]⟩, 0, 0, ⟨#[]⟩, 0, 0, ⟨#[]⟩⟩⟩ (by omega) (fun _ => rfl) ht cellsLr (fun hl h => open_lnR hl h) hv h
set_option maxRecDepth 100000 in
/-- An argument of twelve numbers, opened. -/
theorem open_lasts {W : World} {r : Reach} {b0 : Nat} {v : Value} {d : DataW H} {p : List MemPlace} (hv : Value.okWide Tryz.prog W r b0 25 v) (h : DataW.Trod enc Tryz.prog W 0 (fun _ => true) true 25 v d p) :
    ∃ a0 a1 a2 a3 a4 a5 a6 a7 a8 a9 a10 a11 : Int, v = .agg (laI a0 a1 a2 a3 a4 a5 a6 a7 a8 a9 a10 a11) := by
  obtain ⟨cs, rfl, hsz⟩ := okWide_arrR Tryz.underlying25 hv
  obtain ⟨l⟩ := cs
  match l, hsz.trans cellsTr with
  | [c0, c1, c2, c3, c4, c5, c6, c7, c8, c9, c10, c11], _ =>
    obtain ⟨fuel, hf⟩ := h
    obtain ⟨xs, m, _, _, _, hl, hx⟩ := DataW.trod_array Tryz.underlying25 hf
    obtain ⟨y0, e0⟩ := arr_getR hl (i := 0) (by omega)
    have h0 := (hx 0 (by omega)).trans e0
    obtain ⟨y1, e1⟩ := arr_getR hl (i := 1) (by omega)
    have h1 := (hx 1 (by omega)).trans e1
    obtain ⟨y2, e2⟩ := arr_getR hl (i := 2) (by omega)
    have h2 := (hx 2 (by omega)).trans e2
    obtain ⟨y3, e3⟩ := arr_getR hl (i := 3) (by omega)
    have h3 := (hx 3 (by omega)).trans e3
    obtain ⟨y4, e4⟩ := arr_getR hl (i := 4) (by omega)
    have h4 := (hx 4 (by omega)).trans e4
    obtain ⟨y5, e5⟩ := arr_getR hl (i := 5) (by omega)
    have h5 := (hx 5 (by omega)).trans e5
    obtain ⟨y6, e6⟩ := arr_getR hl (i := 6) (by omega)
    have h6 := (hx 6 (by omega)).trans e6
    obtain ⟨y7, e7⟩ := arr_getR hl (i := 7) (by omega)
    have h7 := (hx 7 (by omega)).trans e7
    obtain ⟨y8, e8⟩ := arr_getR hl (i := 8) (by omega)
    have h8 := (hx 8 (by omega)).trans e8
    obtain ⟨y9, e9⟩ := arr_getR hl (i := 9) (by omega)
    have h9 := (hx 9 (by omega)).trans e9
    obtain ⟨y10, e10⟩ := arr_getR hl (i := 10) (by omega)
    have h10 := (hx 10 (by omega)).trans e10
    obtain ⟨y11, e11⟩ := arr_getR hl (i := 11) (by omega)
    have h11 := (hx 11 (by omega)).trans e11
    simp only [Value.cells, cellsIw, Nat.mul_one, List.drop_zero, List.drop_succ_cons, List.take_succ_cons, List.take_zero] at h0 h1 h2 h3 h4 h5 h6 h7 h8 h9 h10 h11
    obtain ⟨k0, q0, _, _⟩ := DataW.trod_int Tryz.underlying3 h0
    obtain ⟨k1, q1, _, _⟩ := DataW.trod_int Tryz.underlying3 h1
    obtain ⟨k2, q2, _, _⟩ := DataW.trod_int Tryz.underlying3 h2
    obtain ⟨k3, q3, _, _⟩ := DataW.trod_int Tryz.underlying3 h3
    obtain ⟨k4, q4, _, _⟩ := DataW.trod_int Tryz.underlying3 h4
    obtain ⟨k5, q5, _, _⟩ := DataW.trod_int Tryz.underlying3 h5
    obtain ⟨k6, q6, _, _⟩ := DataW.trod_int Tryz.underlying3 h6
    obtain ⟨k7, q7, _, _⟩ := DataW.trod_int Tryz.underlying3 h7
    obtain ⟨k8, q8, _, _⟩ := DataW.trod_int Tryz.underlying3 h8
    obtain ⟨k9, q9, _, _⟩ := DataW.trod_int Tryz.underlying3 h9
    obtain ⟨k10, q10, _, _⟩ := DataW.trod_int Tryz.underlying3 h10
    obtain ⟨k11, q11, _, _⟩ := DataW.trod_int Tryz.underlying3 h11
    simp at q0 q1 q2 q3 q4 q5 q6 q7 q8 q9 q10 q11
    subst q0 q1 q2 q3 q4 q5 q6 q7 q8 q9 q10 q11
    exact ⟨k0, k1, k2, k3, k4, k5, k6, k7, k8, k9, k10, k11, rfl⟩
end
end Go.Proofs.YtnlnbgcmmlpniaaGreatDoor

namespace Go.Proofs.YtnlnbgcmmlpniaaGreatDoor
open Go.RowKit

section
variable {W w0 w' w1 : World} {b : Nat} {v0 v1 v2 v3 v4 v5 v6 v7 v8 v9 v10 v11 : Value} {t : TypeId}
theorem Blk.range {W : World} {b : Nat} {cs : List Value} {t : TypeId} (h : Blk W b cs.toArray t) : W.rangeAt b 0 cs := fun j v hv => by
  rw [Nat.zero_add, h.cell j]; simpa using hv
theorem sb12_0 (h : Blk W b #[v0, v1, v2, v3, v4, v5, v6, v7, v8, v9, v10, v11] t) (hB : Below b w0 W) : W.drew.rangeAt b 0 [v0, v1, v2, v3, v4, v5, v6, v7, v8, v9, v10, v11] ∧ Blk W.drew b #[v0, v1, v2, v3, v4, v5, v6, v7, v8, v9, v10, v11] t ∧ Below b w0 W.drew :=
  ⟨(show Blk W.drew b ([v0, v1, v2, v3, v4, v5, v6, v7, v8, v9, v10, v11] : List Value).toArray t from h).range, h, hB.drew⟩
theorem sb12_1 (h : w'.rangeAt b 0 [v0, v1, v2, v3, v4, v5, v6, v7, v8, v9, v10, v11] ∧ Blk w' b #[v0, v1, v2, v3, v4, v5, v6, v7, v8, v9, v10, v11] t ∧ Below b w0 w') (hb : Below w'.heap.size w' w1) : w1.rangeAt b 0 [v0, v1, v2, v3, v4, v5, v6, v7, v8, v9, v10, v11] ∧ Blk w1 b #[v0, v1, v2, v3, v4, v5, v6, v7, v8, v9, v10, v11] t ∧ Below b w0 w1 := by
  have k := Blk.keep h.2.1 hb
  exact ⟨(show Blk w1 b ([v0, v1, v2, v3, v4, v5, v6, v7, v8, v9, v10, v11] : List Value).toArray t from k).range, k, h.2.2.trans (hb.mono (Nat.le_of_lt (Blk.lt h.2.1)))⟩
theorem sb12_b (h : w'.rangeAt b 0 [v0, v1, v2, v3, v4, v5, v6, v7, v8, v9, v10, v11] ∧ Blk w' b #[v0, v1, v2, v3, v4, v5, v6, v7, v8, v9, v10, v11] t ∧ Below b w0 w') : Below b w0 w' := h.2.2
theorem sb12_k (h : w'.rangeAt b 0 [v0, v1, v2, v3, v4, v5, v6, v7, v8, v9, v10, v11] ∧ Blk w' b #[v0, v1, v2, v3, v4, v5, v6, v7, v8, v9, v10, v11] t ∧ Below b w0 w') : Blk w' b #[v0, v1, v2, v3, v4, v5, v6, v7, v8, v9, v10, v11] t := h.2.1
end
end Go.Proofs.YtnlnbgcmmlpniaaGreatDoor
