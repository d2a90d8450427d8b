/-
  WHAT IS PROVED: an argument that is a slice of writes, opened (own work, over any program that bears the types named). · arguments that are a slice of cells, a slice of lines, twelve numbers: opened (own work, over any program that bears the types named). · an argument that is a letter, opened (own work, over any program that bears the types named). · the cells of a letter that lies in a block of its own (the document's type), as steps of a chain (Fast4). Over this program · whether two lists of cells, of lines are the same (spinneyref07.Same, SameCells); lines as the document has them. Conditions: those typed in each theorem.
-/
import Derived.Test.YtfpfalgbkbmkeaaGreatDoorM0
import Derived.Test.YtfpfalgbkbmkeaaGreatDoorM3
import Derived.Lib.SmallJoins
import Derived.Deep.Slices
import Derived.Test.YtfpfalgbkbmkeaaGreatDoorM6
import Derived.Test.YtfpfalgbkbmkeaaGreatDoorM7
import Derived.Test.YtfpfalgbkbmkeaaGreatDoorM8
import Derived.Test.YtfpfalgbkbmkeaaGreatDoorM10
import Derived.Test.YtfpfalgbkbmkeaaGreatDoorM12
import Derived.Test.YtfpfalgbkbmkeaaGreatDoorM4
namespace Go.Proofs.YtfpfalgbkbmkeaaGreatDoor
open Go.RowKit Go.WideShapes Go.ChangeShapes

section
open Go.Joins Go.Deep
variable {H : Type} {enc : TypeId × Value → H}
theorem cellsWw : Tryz.prog.cellsOf 55 = 10 := by kernel_rfl
theorem cellsOw : Tryz.prog.cellsOf 53 = 8 := by kernel_rfl
theorem cellsDw : Tryz.prog.cellsOf 48 = 2 := by kernel_rfl
theorem cellsVw : Tryz.prog.cellsOf 51 = 3 := by kernel_rfl
theorem cellsIw : Tryz.prog.cellsOf 3 = 1 := by kernel_rfl
theorem cellsKw : Tryz.prog.cellsOf 49 = 1 := by kernel_rfl
theorem cellsSw : Tryz.prog.cellsOf 9 = 1 := by kernel_rfl

set_option maxRecDepth 100000 in
theorem open_valW {W : World} {base : Nat} {spare : Nat → Bool} {held : Bool} {fuel : Nat} {c0 c1 c2 : Value} {y : DataW H × List MemPlace} (h : DataW.trod enc Tryz.prog W base spare held fuel 51 [c0, c1, c2] = some y) :
    ∃ (k n : Int) (s : ByteArray), c0 = .int .i64 k ∧ c1 = .int .i64 n ∧ c2 = .string s ∧ (Lit.int .i64 n).wf = true ∧ s.size ≤ maxLen := by
  obtain ⟨y0, y1, y2, m, rfl, _, h0, h1, h2⟩ := trod_struct3 Tryz.underlying51 h
  simp only [cellsIw, cellsKw, cellsSw, List.drop_zero, List.drop_succ_cons, List.take_succ_cons, List.take_zero] at h0 h1 h2
  obtain ⟨k, e0, rfl, wk⟩ := DataW.trod_int Tryz.underlying49 h0
  obtain ⟨n, e1, rfl, wn⟩ := DataW.trod_int Tryz.underlying3 h1
  obtain ⟨s, e2, rfl, ws⟩ := DataW.trod_string Tryz.underlying9 h2
  simp at e0 e1 e2
  subst e0 e1 e2
  exact ⟨k, n, s, rfl, rfl, rfl, wn, ws⟩
set_option maxRecDepth 100000 in
theorem open_opW {W : World} {base : Nat} {spare : Nat → Bool} {held : Bool} {fuel : Nat} {c0 c1 c2 c3 c4 c5 c6 c7 : Value} {y : DataW H × List MemPlace} (h : DataW.trod enc Tryz.prog W base spare held fuel 53 [c0, c1, c2, c3, c4, c5, c6, c7] = some y) :
    ∃ (K : Int) (ky : ByteArray) (ka na : Int) (sa : ByteArray) (kb nb : Int) (sb : ByteArray), c0 = .int .i64 K ∧ c1 = .string ky ∧ c2 = .int .i64 ka ∧ c3 = .int .i64 na ∧ c4 = .string sa ∧ c5 = .int .i64 kb ∧ c6 = .int .i64 nb ∧ c7 = .string sb ∧
      ky.size ≤ maxLen ∧ (Lit.int .i64 na).wf = true ∧ sa.size ≤ maxLen ∧ (Lit.int .i64 nb).wf = true ∧ sb.size ≤ maxLen := by
  obtain ⟨y0, y1, y2, y3, n, _, _, h0, h1, h2, h3⟩ := trod_struct4 Tryz.underlying53 h
  simp only [cellsIw, cellsSw, cellsVw, List.drop_zero, List.drop_succ_cons, List.take_succ_cons, List.take_zero] at h0 h1 h2 h3
  obtain ⟨K, e0, rfl, wK⟩ := DataW.trod_int Tryz.underlying3 h0
  obtain ⟨ky, e1, rfl, wky⟩ := DataW.trod_string Tryz.underlying9 h1
  simp at e0 e1
  subst e0 e1
  obtain ⟨ka, na, sa, rfl, rfl, rfl, wna, wsa⟩ := open_valW h2
  obtain ⟨kb, nb, sb, rfl, rfl, rfl, wnb, wsb⟩ := open_valW h3
  exact ⟨K, ky, ka, na, sa, kb, nb, sb, rfl, rfl, rfl, rfl, rfl, rfl, rfl, rfl, wky, wna, wsa, wnb, wsb⟩
set_option maxRecDepth 100000 in
/-- Ten cells that read as a write. -/
theorem open_wrW {W : World} {base : Nat} {spare : Nat → Bool} {held : Bool} {fuel : Nat} {cs : List Value} {y : DataW H × List MemPlace} (hl : cs.length = 10) (h : DataW.trod enc Tryz.prog W base spare held fuel 55 cs = some y) : ∃ x : Wr, cs = x.cells.toList ∧ x.fits := by
  match cs, hl with
  | [c0, c1, c2, c3, c4, c5, c6, c7, c8, c9], _ =>
    obtain ⟨y0, y1, n, _, _, h0, h1⟩ := trod_struct2 Tryz.underlying55 h
    simp only [cellsDw, cellsOw, List.drop_zero, List.drop_succ_cons, List.take_succ_cons, List.take_zero] at h0 h1
    obtain ⟨z0, z1, n2, _, _, k0, k1⟩ := trod_struct2 Tryz.underlying48 h0
    simp only [cellsIw, List.drop_zero, List.drop_succ_cons, List.take_succ_cons, List.take_zero] at k0 k1
    obtain ⟨dev, e0, rfl, _⟩ := DataW.trod_int Tryz.underlying3 k0
    obtain ⟨seq, e1, rfl, _⟩ := DataW.trod_int Tryz.underlying3 k1
    simp at e0 e1
    subst e0 e1
    obtain ⟨K, ky, ka, na, sa, kb, nb, sb, rfl, rfl, rfl, rfl, rfl, rfl, rfl, rfl, wky, wna, wsa, wnb, wsb⟩ := open_opW h1
    exact ⟨⟨dev, seq, K, ky, ka, na, sa, kb, nb, sb⟩, rfl, wky, wsa, wsb, wf_i64 wna, wf_i64 wnb⟩
set_option maxRecDepth 100000 in
/-- An argument that is a slice of writes, opened. -/
theorem open_wrl {t : TypeId} (ht : Tryz.prog.underlying t = some (.slice 55)) {W : World} {r : Reach} {b0 : Nat} {v : Value} {d : DataW H} {p : List MemPlace} (hv : Value.okWide Tryz.prog W r b0 t v) (h : DataW.Trod enc Tryz.prog W 0 (fun _ => true) true t v d p) :
    ∃ (A : Option Addr) (n c : Nat) (l : List Wr), v = .slice A n c ∧ l.length = n ∧ RdW W.heap.size W A l ∧ n ≤ maxLen ∧ ∀ x, x ∈ l → x.fits := by
  obtain ⟨A, n, c, rfl⟩ := okWide_slice ht hv
  obtain ⟨fuel, hf⟩ := h
  rcases open_slice ht hf with ⟨hcs, _⟩ | ⟨a, len, cap, m, f, D, Pl, hcs, _, hl, hm, hmm, _, hi⟩
  · simp [Value.cells] at hcs
    obtain ⟨rfl, rfl, rfl⟩ := hcs
    exact ⟨none, 0, 0, [], rfl, rfl, RdW.nil _ _ _, Nat.zero_le _, fun x hx => by simp at hx⟩
  · simp [Value.cells] at hcs
    obtain ⟨rfl, rfl, rfl⟩ := hcs
    have hle : n ≤ m := by rw [hmm]; simp; omega
    have hx : ∀ i, ∃ x : Wr, i < n → x.fits ∧ ∀ j v, x.cells[j]? = some v → W.cell? (a.add (i * 10 + j)) = some v := by
      intro i
      by_cases hin : i < n
      · obtain ⟨cs', hc, ht'⟩ := hi i (by omega)
        rw [cellsWw] at hc
        obtain ⟨_, hlen, hcell⟩ := World.cells?_some hc
        obtain ⟨x, rfl, hfx⟩ := open_wrW hlen ht'
        refine ⟨x, fun _ => ⟨hfx, fun j v hj => ?_⟩⟩
        have hj10 : j < 10 := by
          have := (Array.getElem?_eq_some_iff.1 hj).1
          simpa using this
        rw [← add_add', hcell j hj10, Array.getElem?_toList]
        exact hj
      · exact ⟨⟨0, 0, 0, ⟨#[]⟩, 0, 0, ⟨#[]⟩, 0, 0, ⟨#[]⟩⟩, fun h => absurd h hin⟩
    have hF : ∃ f : Nat → Wr, ∀ i, i < n → (f i).fits ∧ ∀ j v, (f i).cells[j]? = some v → W.cell? (a.add (i * 10 + j)) = some v := ⟨fun i => Classical.choose (hx i), fun i => Classical.choose_spec (hx i)⟩
    obtain ⟨g, hg⟩ := hF
    refine ⟨some a, n, c, (List.range n).map g, rfl, by simp, fun k x hx => ?_, by omega, fun x hx => ?_⟩
    · have hk : k < n := by
        have := (List.getElem?_eq_some_iff.1 hx).1
        simpa using this
      have e : x = g k := by
        rw [List.getElem?_map, List.getElem?_range hk] at hx
        injection hx with hx
        exact hx.symm
      subst e
      have hc := (hg k hk).2 0 _ rfl
      have hb := World.block_lt_of_cell? W _ hc
      rw [add_block] at hb
      exact ⟨a, rfl, hb, (hg k hk).2⟩
    · obtain ⟨k, hk, rfl⟩ := List.mem_map.1 hx
      exact (hg k (List.mem_range.1 hk)).1
end
end Go.Proofs.YtfpfalgbkbmkeaaGreatDoor

namespace Go.Proofs.YtfpfalgbkbmkeaaGreatDoor
open Go.RowKit Go.WideShapes Go.ChangeShapes

theorem okWide_arrR {P : Program} {w : World} {r : Reach} {base n : Nat} {t e : TypeId} {v : Value} (ht : P.underlying t = some (.array n e)) (h : Value.okWide P w r base t v) : ∃ cs, v = .agg cs ∧ cs.size = P.cellsOf t := by
  simp only [Value.okWide, ht] at h
  obtain ⟨cs, h1, h2, _⟩ := h
  exact ⟨cs, h1, h2⟩
section
open Go.Joins Go.Deep
variable {H : Type} {enc : TypeId × Value → H}
theorem cellsCr : Tryz.prog.cellsOf 57 = 4 := by kernel_rfl
theorem cellsLr : Tryz.prog.cellsOf 140 = 11 := by kernel_rfl
theorem cellsTr : Tryz.prog.cellsOf 28 = 12 := by kernel_rfl
theorem arr_getR {xs : List (DataW H × List MemPlace)} {n : Nat} (h : xs.length = n) {i : Nat} (hi : i < n) : ∃ y, xs[i]? = some y := ⟨xs[i], List.getElem?_eq_getElem (by omega)⟩
set_option maxRecDepth 100000 in
/-- An argument that is a slice of elements of z cells each, opened. -/
theorem open_rowX {X : Type} (f : X → Array Value) (P : X → Prop) (x0 : X) {z : Nat} (hz : 0 < z) (hs : ∀ x, (f x).size = z) {t te : TypeId} (ht : Tryz.prog.underlying t = some (.slice te)) (hce : Tryz.prog.cellsOf te = z) {W : World}
    (hE : ∀ {base : Nat} {spare : Nat → Bool} {held : Bool} {fuel : Nat} {cs : List Value} {y : DataW H × List MemPlace}, cs.length = z → DataW.trod enc Tryz.prog W base spare held fuel te cs = some y → ∃ x : X, cs = (f x).toList ∧ P x)
    {r : Reach} {b0 : Nat} {v : Value} {d : DataW H} {p : List MemPlace} (hv : Value.okWide Tryz.prog W r b0 t v) (h : DataW.Trod enc Tryz.prog W 0 (fun _ => true) true t v d p) :
    ∃ (A : Option Addr) (n c : Nat) (l : List X), v = .slice A n c ∧ l.length = n ∧ RdX z W.heap.size W A (l.map f) ∧ n ≤ maxLen ∧ ∀ x, x ∈ l → P x := by
  obtain ⟨A, n, c, rfl⟩ := okWide_slice ht hv
  obtain ⟨fuel, hf⟩ := h
  rcases open_slice ht hf with ⟨hcs, _⟩ | ⟨a, len, cap, m, fu, D, Pl, hcs, _, hl, hm, hmm, _, hi⟩
  · simp [Value.cells] at hcs
    obtain ⟨rfl, rfl, rfl⟩ := hcs
    exact ⟨none, 0, 0, [], rfl, rfl, RdX.nil _ _ _ _, Nat.zero_le _, fun x hx => by simp at hx⟩
  · simp [Value.cells] at hcs
    obtain ⟨rfl, rfl, rfl⟩ := hcs
    have hle : n ≤ m := by rw [hmm]; simp; omega
    have hx : ∀ i, ∃ x : X, i < n → P x ∧ ∀ j v, (f x)[j]? = some v → W.cell? (a.add (i * z + j)) = some v := by
      intro i
      by_cases hin : i < n
      · obtain ⟨cs', hc, ht'⟩ := hi i (by omega)
        rw [hce] at hc
        obtain ⟨_, hlen, hcell⟩ := World.cells?_some hc
        obtain ⟨x, rfl, hfx⟩ := hE hlen ht'
        refine ⟨x, fun _ => ⟨hfx, fun j v hj => ?_⟩⟩
        have hj10 : j < z := by
          have := (Array.getElem?_eq_some_iff.1 hj).1
          rw [hs] at this
          exact this
        rw [← add_add', hcell j hj10, Array.getElem?_toList]
        exact hj
      · exact ⟨x0, fun h => absurd h hin⟩
    have hF : ∃ g : Nat → X, ∀ i, i < n → P (g i) ∧ ∀ j v, (f (g i))[j]? = some v → W.cell? (a.add (i * z + j)) = some v := ⟨fun i => Classical.choose (hx i), fun i => Classical.choose_spec (hx i)⟩
    obtain ⟨g, hg⟩ := hF
    refine ⟨some a, n, c, (List.range n).map g, rfl, by simp, fun k x hx => ?_, by omega, fun x hx => ?_⟩
    · have hk : k < n := by
        have := (List.getElem?_eq_some_iff.1 hx).1
        simpa using this
      have e : x = f (g k) := by
        rw [List.getElem?_map, List.getElem?_map, List.getElem?_range hk] at hx
        injection hx with hx
        exact hx.symm
      subst e
      have h0 : 0 < (f (g k)).size := by rw [hs]; exact hz
      have hc := (hg k hk).2 0 _ (Array.getElem?_eq_getElem h0)
      have hb := World.block_lt_of_cell? W _ hc
      rw [add_block] at hb
      exact ⟨a, rfl, hb, (hg k hk).2⟩
    · obtain ⟨k, hk, rfl⟩ := List.mem_map.1 hx
      exact (hg k (List.mem_range.1 hk)).1
set_option maxRecDepth 100000 in
/-- Four cells that read as a cell. -/
theorem open_clR {W : World} {base : Nat} {spare : Nat → Bool} {held : Bool} {fuel : Nat} {cs : List Value} {y : DataW H × List MemPlace} (hl : cs.length = 4) (h : DataW.trod enc Tryz.prog W base spare held fuel 57 cs = some y) : ∃ x : Cl, cs = x.cells.toList ∧ x.fits := by
  match cs, hl with
  | [c0, c1, c2, c3], _ =>
    obtain ⟨y0, y1, n, _, _, h0, h1⟩ := trod_struct2 Tryz.underlying57 h
    simp only [cellsSw, cellsVw, List.drop_zero, List.drop_succ_cons, List.take_succ_cons, List.take_zero] at h0 h1
    obtain ⟨ky, e0, rfl, wk⟩ := DataW.trod_string Tryz.underlying9 h0
    simp at e0
    subst e0
    obtain ⟨k, n, s, rfl, rfl, rfl, wn, ws⟩ := open_valW h1
    exact ⟨⟨ky, k, n, s⟩, rfl, wk, ws, (wf_i64 wn).1, (wf_i64 wn).2⟩
set_option maxRecDepth 100000 in
theorem open_cells {t : TypeId} (ht : Tryz.prog.underlying t = some (.slice 57)) {W : World} {r : Reach} {b0 : Nat} {v : Value} {d : DataW H} {p : List MemPlace} (hv : Value.okWide Tryz.prog W r b0 t v) (h : DataW.Trod enc Tryz.prog W 0 (fun _ => true) true t v d p) :
    ∃ (A : Option Addr) (n c : Nat) (l : List Cl), v = .slice A n c ∧ l.length = n ∧ RdX 4 W.heap.size W A (l.map Cl.cells) ∧ n ≤ maxLen ∧ ∀ x, x ∈ l → x.fits :=
  open_rowX Cl.cells Cl.fits ⟨⟨#[]⟩, 0, 0, ⟨#[]⟩⟩ (by omega) (fun _ => rfl) ht cellsCr (fun hl h => open_clR hl h) hv h
set_option maxRecDepth 100000 in
/-- Eleven cells that read as a line. -/
theorem open_lnR {W : World} {base : Nat} {spare : Nat → Bool} {held : Bool} {fuel : Nat} {cs : List Value} {y : DataW H × List MemPlace} (hl : cs.length = 11) (h : DataW.trod enc Tryz.prog W base spare held fuel 140 cs = some y) : ∃ x : Ln, cs = x.cells.toList ∧ x.fits := by
  match cs, hl with
  | [c0, c1, c2, c3, c4, c5, c6, c7, c8, c9, c10], _ =>
    obtain ⟨y0, y1, n, _, _, h0, h1⟩ := trod_struct2 Tryz.underlying140 h
    simp only [cellsIw, cellsWw, List.drop_zero, List.drop_succ_cons, List.take_succ_cons, List.take_zero] at h0 h1
    obtain ⟨pl, e0, rfl, _⟩ := DataW.trod_int Tryz.underlying3 h0
    simp at e0
    subst e0
    obtain ⟨x, hx, hf⟩ := open_wrW (by rfl) h1
    exact ⟨⟨pl, x⟩, by rw [hx], hf⟩
set_option maxRecDepth 100000 in
theorem open_lines {t : TypeId} (ht : Tryz.prog.underlying t = some (.slice 140)) {W : World} {r : Reach} {b0 : Nat} {v : Value} {d : DataW H} {p : List MemPlace} (hv : Value.okWide Tryz.prog W r b0 t v) (h : DataW.Trod enc Tryz.prog W 0 (fun _ => true) true t v d p) :
    ∃ (A : Option Addr) (n c : Nat) (l : List Ln), v = .slice A n c ∧ l.length = n ∧ RdX 11 W.heap.size W A (l.map Ln.cells) ∧ n ≤ maxLen ∧ ∀ x, x ∈ l → x.fits :=
  open_rowX Ln.cells Ln.fits ⟨0, ⟨0, 0, 0, ⟨#[]⟩, 0, 0, ⟨#[]⟩, 0, 0, ⟨#[]⟩⟩⟩ (by omega) (fun _ => rfl) ht cellsLr (fun hl h => open_lnR hl h) hv h
set_option maxRecDepth 100000 in
/-- An argument of twelve numbers, opened. -/
theorem open_lasts {W : World} {r : Reach} {b0 : Nat} {v : Value} {d : DataW H} {p : List MemPlace} (hv : Value.okWide Tryz.prog W r b0 28 v) (h : DataW.Trod enc Tryz.prog W 0 (fun _ => true) true 28 v d p) :
    ∃ a0 a1 a2 a3 a4 a5 a6 a7 a8 a9 a10 a11 : Int, v = .agg (laI a0 a1 a2 a3 a4 a5 a6 a7 a8 a9 a10 a11) := by
  obtain ⟨cs, rfl, hsz⟩ := okWide_arrR Tryz.underlying28 hv
  obtain ⟨l⟩ := cs
  match l, hsz.trans cellsTr with
  | [c0, c1, c2, c3, c4, c5, c6, c7, c8, c9, c10, c11], _ =>
    obtain ⟨fuel, hf⟩ := h
    obtain ⟨xs, m, _, _, _, hl, hx⟩ := DataW.trod_array Tryz.underlying28 hf
    obtain ⟨y0, e0⟩ := arr_getR hl (i := 0) (by omega)
    have h0 := (hx 0 (by omega)).trans e0
    obtain ⟨y1, e1⟩ := arr_getR hl (i := 1) (by omega)
    have h1 := (hx 1 (by omega)).trans e1
    obtain ⟨y2, e2⟩ := arr_getR hl (i := 2) (by omega)
    have h2 := (hx 2 (by omega)).trans e2
    obtain ⟨y3, e3⟩ := arr_getR hl (i := 3) (by omega)
    have h3 := (hx 3 (by omega)).trans e3
    obtain ⟨y4, e4⟩ := arr_getR hl (i := 4) (by omega)
    have h4 := (hx 4 (by omega)).trans e4
    obtain ⟨y5, e5⟩ := arr_getR hl (i := 5) (by omega)
    have h5 := (hx 5 (by omega)).trans e5
    obtain ⟨y6, e6⟩ := arr_getR hl (i := 6) (by omega)
    have h6 := (hx 6 (by omega)).trans e6
    obtain ⟨y7, e7⟩ := arr_getR hl (i := 7) (by omega)
    have h7 := (hx 7 (by omega)).trans e7
    obtain ⟨y8, e8⟩ := arr_getR hl (i := 8) (by omega)
    have h8 := (hx 8 (by omega)).trans e8
    obtain ⟨y9, e9⟩ := arr_getR hl (i := 9) (by omega)
    have h9 := (hx 9 (by omega)).trans e9
    obtain ⟨y10, e10⟩ := arr_getR hl (i := 10) (by omega)
    have h10 := (hx 10 (by omega)).trans e10
    obtain ⟨y11, e11⟩ := arr_getR hl (i := 11) (by omega)
    have h11 := (hx 11 (by omega)).trans e11
    simp only [Value.cells, cellsIw, Nat.mul_one, List.drop_zero, List.drop_succ_cons, List.take_succ_cons, List.take_zero] at h0 h1 h2 h3 h4 h5 h6 h7 h8 h9 h10 h11
    obtain ⟨k0, q0, _, _⟩ := DataW.trod_int Tryz.underlying3 h0
    obtain ⟨k1, q1, _, _⟩ := DataW.trod_int Tryz.underlying3 h1
    obtain ⟨k2, q2, _, _⟩ := DataW.trod_int Tryz.underlying3 h2
    obtain ⟨k3, q3, _, _⟩ := DataW.trod_int Tryz.underlying3 h3
    obtain ⟨k4, q4, _, _⟩ := DataW.trod_int Tryz.underlying3 h4
    obtain ⟨k5, q5, _, _⟩ := DataW.trod_int Tryz.underlying3 h5
    obtain ⟨k6, q6, _, _⟩ := DataW.trod_int Tryz.underlying3 h6
    obtain ⟨k7, q7, _, _⟩ := DataW.trod_int Tryz.underlying3 h7
    obtain ⟨k8, q8, _, _⟩ := DataW.trod_int Tryz.underlying3 h8
    obtain ⟨k9, q9, _, _⟩ := DataW.trod_int Tryz.underlying3 h9
    obtain ⟨k10, q10, _, _⟩ := DataW.trod_int Tryz.underlying3 h10
    obtain ⟨k11, q11, _, _⟩ := DataW.trod_int Tryz.underlying3 h11
    simp at q0 q1 q2 q3 q4 q5 q6 q7 q8 q9 q10 q11
    subst q0 q1 q2 q3 q4 q5 q6 q7 q8 q9 q10 q11
    exact ⟨k0, k1, k2, k3, k4, k5, k6, k7, k8, k9, k10, k11, rfl⟩
end
end Go.Proofs.YtfpfalgbkbmkeaaGreatDoor

namespace Go.Proofs.YtfpfalgbkbmkeaaGreatDoor
open Go.RowKit Go.WideShapes Go.ChangeShapes Go.Deep

theorem cellsLt : Tryz.prog.cellsOf 30 = 29 := by kernel_rfl
theorem cellsRe : Tryz.prog.cellsOf 23 = 1 := by kernel_rfl
theorem cellsWs : Tryz.prog.cellsOf 24 = 1 := by kernel_rfl
theorem cellsLs : Tryz.prog.cellsOf 25 = 1 := by kernel_rfl
theorem cellsCs : Tryz.prog.cellsOf 26 = 1 := by kernel_rfl
theorem cellsBo : Tryz.prog.cellsOf 4 = 1 := by kernel_rfl
section
variable {H : Type} {enc : TypeId × Value → H}
set_option maxRecDepth 100000 in
/-- A cell that reads as a row of elements of z cells each. -/
theorem rd_rowX {X : Type} (f : X → Array Value) (P : X → Prop) (x0 : X) {z : Nat} (hz : 0 < z) (hs : ∀ x, (f x).size = z) {t te : TypeId} (ht : Tryz.prog.underlying t = some (.slice te)) (hce : Tryz.prog.cellsOf te = z) {W : World}
    (hE : ∀ {base : Nat} {spare : Nat → Bool} {held : Bool} {fuel : Nat} {cs : List Value} {y : DataW H × List MemPlace}, cs.length = z → DataW.trod enc Tryz.prog W base spare held fuel te cs = some y → ∃ x : X, cs = (f x).toList ∧ P x)
    {fuel : Nat} {cs : List Value} {y : DataW H × List MemPlace} (h : DataW.trod enc Tryz.prog W 0 (fun _ => true) true fuel t cs = some y) :
    ∃ (A : Option Addr) (n c : Nat) (l : List X), cs = [.slice A n c] ∧ l.length = n ∧ RdX z W.heap.size W A (l.map f) ∧ n ≤ maxLen ∧ ∀ x, x ∈ l → P x := by
  rcases open_slice ht h with ⟨hcs, _⟩ | ⟨a, n, c, m, fu, D, Pl, hcs, _, hl, hm, hmm, _, hi⟩
  · exact ⟨none, 0, 0, [], hcs, rfl, RdX.nil _ _ _ _, Nat.zero_le _, fun x hx => by simp at hx⟩
  · have hle : n ≤ m := by rw [hmm]; simp; omega
    have hx : ∀ i, ∃ x : X, i < n → P x ∧ ∀ j v, (f x)[j]? = some v → W.cell? (a.add (i * z + j)) = some v := by
      intro i
      by_cases hin : i < n
      · obtain ⟨cs', hc, ht'⟩ := hi i (by omega)
        rw [hce] at hc
        obtain ⟨_, hlen, hcell⟩ := World.cells?_some hc
        obtain ⟨x, rfl, hfx⟩ := hE hlen ht'
        refine ⟨x, fun _ => ⟨hfx, fun j v hj => ?_⟩⟩
        have hj10 : j < z := by
          have := (Array.getElem?_eq_some_iff.1 hj).1
          rw [hs] at this
          exact this
        rw [← add_add', hcell j hj10, Array.getElem?_toList]
        exact hj
      · exact ⟨x0, fun h => absurd h hin⟩
    have hF : ∃ g : Nat → X, ∀ i, i < n → P (g i) ∧ ∀ j v, (f (g i))[j]? = some v → W.cell? (a.add (i * z + j)) = some v := ⟨fun i => Classical.choose (hx i), fun i => Classical.choose_spec (hx i)⟩
    obtain ⟨g, hg⟩ := hF
    refine ⟨some a, n, c, (List.range n).map g, hcs, by simp, fun k x hx => ?_, by omega, fun x hx => ?_⟩
    · have hk : k < n := by
        have := (List.getElem?_eq_some_iff.1 hx).1
        simpa using this
      have e : x = f (g k) := by
        rw [List.getElem?_map, List.getElem?_map, List.getElem?_range hk] at hx
        injection hx with hx
        exact hx.symm
      subst e
      have h0 : 0 < (f (g k)).size := by rw [hs]; exact hz
      have hc := (hg k hk).2 0 _ (Array.getElem?_eq_getElem h0)
      have hb := World.block_lt_of_cell? W _ hc
      rw [add_block] at hb
      exact ⟨a, rfl, hb, (hg k hk).2⟩
    · obtain ⟨k, hk, rfl⟩ := List.mem_map.1 hx
      exact (hg k (List.mem_range.1 hk)).1
theorem open_stR {W : World} {base : Nat} {spare : Nat → Bool} {held : Bool} {fuel : Nat} {cs : List Value} {y : DataW H × List MemPlace} (_hl : cs.length = 1) (h : DataW.trod enc Tryz.prog W base spare held fuel 9 cs = some y) : ∃ x : ByteArray, cs = (#[.string x] : Array Value).toList ∧ x.size ≤ maxLen := by
  obtain ⟨s, e0, _, ws⟩ := DataW.trod_string Tryz.underlying9 h
  exact ⟨s, e0, ws⟩
theorem rds_of1 {B : Nat} {W : World} {A : Option Addr} {l : List ByteArray} (h : RdX 1 B W A (l.map fun s => #[.string s])) : RdS B W A l := by
  intro k x hx
  obtain ⟨ad, hA, hl, hc⟩ := h k #[.string x] (by rw [List.getElem?_map, hx]; rfl)
  refine ⟨ad, hA, hl, ?_⟩
  have := hc 0 _ rfl
  simpa using this
theorem rdw_of {B : Nat} {W : World} {A : Option Addr} {l : List Wr} (h : RdX 10 B W A (l.map Wr.cells)) : RdW B W A l := fun k x hx => h k x.cells (by rw [List.getElem?_map, hx]; rfl)
theorem len1 {a b : Value} (h : [a] = [b]) : a = b := by simpa using h
theorem trod_struct18 {P : Program} {w : World} {base : Nat} {spare : Nat → Bool} {held : Bool} {t : TypeId} {f0 f1 f2 f3 f4 f5 f6 f7 f8 f9 f10 f11 f12 f13 f14 f15 f16 f17 : Field} {fuel : Nat} {cs : List Value} {x : DataW H × List MemPlace} (ht : P.underlying t = some (.struct #[f0, f1, f2, f3, f4, f5, f6, f7, f8, f9, f10, f11, f12, f13, f14, f15, f16, f17])) (h : DataW.trod enc P w base spare held fuel t cs = some x) :
    ∃ n, (∃ y, DataW.trod enc P w base spare held n f0.type ((cs.drop f0.offset).take (P.cellsOf f0.type)) = some y) ∧ (∃ y, DataW.trod enc P w base spare held n f1.type ((cs.drop f1.offset).take (P.cellsOf f1.type)) = some y) ∧ (∃ y, DataW.trod enc P w base spare held n f2.type ((cs.drop f2.offset).take (P.cellsOf f2.type)) = some y) ∧ (∃ y, DataW.trod enc P w base spare held n f3.type ((cs.drop f3.offset).take (P.cellsOf f3.type)) = some y) ∧ (∃ y, DataW.trod enc P w base spare held n f4.type ((cs.drop f4.offset).take (P.cellsOf f4.type)) = some y) ∧ (∃ y, DataW.trod enc P w base spare held n f5.type ((cs.drop f5.offset).take (P.cellsOf f5.type)) = some y) ∧ (∃ y, DataW.trod enc P w base spare held n f6.type ((cs.drop f6.offset).take (P.cellsOf f6.type)) = some y) ∧ (∃ y, DataW.trod enc P w base spare held n f7.type ((cs.drop f7.offset).take (P.cellsOf f7.type)) = some y) ∧ (∃ y, DataW.trod enc P w base spare held n f8.type ((cs.drop f8.offset).take (P.cellsOf f8.type)) = some y) ∧ (∃ y, DataW.trod enc P w base spare held n f9.type ((cs.drop f9.offset).take (P.cellsOf f9.type)) = some y) ∧ (∃ y, DataW.trod enc P w base spare held n f10.type ((cs.drop f10.offset).take (P.cellsOf f10.type)) = some y) ∧ (∃ y, DataW.trod enc P w base spare held n f11.type ((cs.drop f11.offset).take (P.cellsOf f11.type)) = some y) ∧ (∃ y, DataW.trod enc P w base spare held n f12.type ((cs.drop f12.offset).take (P.cellsOf f12.type)) = some y) ∧ (∃ y, DataW.trod enc P w base spare held n f13.type ((cs.drop f13.offset).take (P.cellsOf f13.type)) = some y) ∧ (∃ y, DataW.trod enc P w base spare held n f14.type ((cs.drop f14.offset).take (P.cellsOf f14.type)) = some y) ∧ (∃ y, DataW.trod enc P w base spare held n f15.type ((cs.drop f15.offset).take (P.cellsOf f15.type)) = some y) ∧ (∃ y, DataW.trod enc P w base spare held n f16.type ((cs.drop f16.offset).take (P.cellsOf f16.type)) = some y) ∧ (∃ y, DataW.trod enc P w base spare held n f17.type ((cs.drop f17.offset).take (P.cellsOf f17.type)) = some y) := by
  obtain ⟨xs, n, _, rfl, _, hlen, hf⟩ := DataW.trod_struct ht h
  have hl : xs.length = 18 := hlen
  obtain ⟨y0, e0⟩ := arr_getR hl (i := 0) (by omega)
  obtain ⟨y1, e1⟩ := arr_getR hl (i := 1) (by omega)
  obtain ⟨y2, e2⟩ := arr_getR hl (i := 2) (by omega)
  obtain ⟨y3, e3⟩ := arr_getR hl (i := 3) (by omega)
  obtain ⟨y4, e4⟩ := arr_getR hl (i := 4) (by omega)
  obtain ⟨y5, e5⟩ := arr_getR hl (i := 5) (by omega)
  obtain ⟨y6, e6⟩ := arr_getR hl (i := 6) (by omega)
  obtain ⟨y7, e7⟩ := arr_getR hl (i := 7) (by omega)
  obtain ⟨y8, e8⟩ := arr_getR hl (i := 8) (by omega)
  obtain ⟨y9, e9⟩ := arr_getR hl (i := 9) (by omega)
  obtain ⟨y10, e10⟩ := arr_getR hl (i := 10) (by omega)
  obtain ⟨y11, e11⟩ := arr_getR hl (i := 11) (by omega)
  obtain ⟨y12, e12⟩ := arr_getR hl (i := 12) (by omega)
  obtain ⟨y13, e13⟩ := arr_getR hl (i := 13) (by omega)
  obtain ⟨y14, e14⟩ := arr_getR hl (i := 14) (by omega)
  obtain ⟨y15, e15⟩ := arr_getR hl (i := 15) (by omega)
  obtain ⟨y16, e16⟩ := arr_getR hl (i := 16) (by omega)
  obtain ⟨y17, e17⟩ := arr_getR hl (i := 17) (by omega)
  exact ⟨n, ⟨y0, (hf 0 f0 rfl).trans e0⟩, ⟨y1, (hf 1 f1 rfl).trans e1⟩, ⟨y2, (hf 2 f2 rfl).trans e2⟩, ⟨y3, (hf 3 f3 rfl).trans e3⟩, ⟨y4, (hf 4 f4 rfl).trans e4⟩, ⟨y5, (hf 5 f5 rfl).trans e5⟩, ⟨y6, (hf 6 f6 rfl).trans e6⟩, ⟨y7, (hf 7 f7 rfl).trans e7⟩, ⟨y8, (hf 8 f8 rfl).trans e8⟩, ⟨y9, (hf 9 f9 rfl).trans e9⟩, ⟨y10, (hf 10 f10 rfl).trans e10⟩, ⟨y11, (hf 11 f11 rfl).trans e11⟩, ⟨y12, (hf 12 f12 rfl).trans e12⟩, ⟨y13, (hf 13 f13 rfl).trans e13⟩, ⟨y14, (hf 14 f14 rfl).trans e14⟩, ⟨y15, (hf 15 f15 rfl).trans e15⟩, ⟨y16, (hf 16 f16 rfl).trans e16⟩, ⟨y17, (hf 17 f17 rfl).trans e17⟩⟩
set_option maxRecDepth 100000 in
set_option maxHeartbeats 4000000 in
/-- An argument that is a letter, opened. -/
theorem open_letter {W : World} {r : Reach} {b0 : Nat} {v : Value} {d : DataW H} {p : List MemPlace} (hv : Value.okWide Tryz.prog W r b0 30 v) (h : DataW.Trod enc Tryz.prog W 0 (fun _ => true) true 30 v d p) :
    ∃ (x : Lt) (k : Hn), v = .agg (ltI x k) ∧ LtR W.heap.size W x k ∧ LtF x := by
  obtain ⟨cs, rfl, hsz⟩ := okWide_struct Tryz.underlying30 hv
  obtain ⟨l⟩ := cs
  match l, hsz.trans cellsLt with
  | [c0, c1, c2, c3, c4, c5, c6, c7, c8, c9, c10, c11, c12, c13, c14, c15, c16, c17, c18, c19, c20, c21, c22, c23, c24, c25, c26, c27, c28], _ =>
    obtain ⟨fuel, hf⟩ := h
    obtain ⟨m, ⟨y0, h0⟩, ⟨y1, h1⟩, ⟨y2, h2⟩, ⟨y3, h3⟩, ⟨y4, h4⟩, ⟨y5, h5⟩, ⟨y6, h6⟩, ⟨y7, h7⟩, ⟨y8, h8⟩, ⟨y9, h9⟩, ⟨y10, h10⟩, ⟨y11, h11⟩, ⟨y12, h12⟩, ⟨y13, h13⟩, ⟨y14, h14⟩, ⟨y15, h15⟩, ⟨y16, h16⟩, ⟨y17, h17⟩⟩ := trod_struct18 Tryz.underlying30 hf
    simp only [Value.cells, cellsIw, cellsBo, cellsRe, cellsWs, cellsLs, cellsCs, cellsTr, List.drop_zero, List.drop_succ_cons, List.take_succ_cons, List.take_zero] at h0 h1 h2 h3 h4 h5 h6 h7 h8 h9 h10 h11 h12 h13 h14 h15 h16 h17
    obtain ⟨k0, q0, _, _⟩ := DataW.trod_int Tryz.underlying3 h0
    obtain ⟨k1, q1, _, _⟩ := DataW.trod_int Tryz.underlying3 h1
    obtain ⟨k2, q2, _, _⟩ := DataW.trod_int Tryz.underlying3 h2
    obtain ⟨k3, q3, _, _⟩ := DataW.trod_int Tryz.underlying3 h3
    obtain ⟨k4, q4, _, _⟩ := DataW.trod_int Tryz.underlying3 h4
    obtain ⟨k5, q5, _, _⟩ := DataW.trod_int Tryz.underlying3 h5
    obtain ⟨k6, q6, _, _⟩ := DataW.trod_int Tryz.underlying3 h6
    obtain ⟨k7, q7, _, _⟩ := DataW.trod_int Tryz.underlying3 h7
    obtain ⟨k8, q8, _, _⟩ := DataW.trod_int Tryz.underlying3 h8
    obtain ⟨k9, q9, _, _⟩ := DataW.trod_int Tryz.underlying3 h9
    obtain ⟨k10, q10, _, _⟩ := DataW.trod_int Tryz.underlying3 h10
    obtain ⟨k11, q11, _, _⟩ := DataW.trod_int Tryz.underlying3 h11
    obtain ⟨k12, q12, _⟩ := DataW.trod_bool Tryz.underlying4 h12
    obtain ⟨A1, n1, d1, l1, q13, z1, r1, m1, f1⟩ := rd_rowX (z := 1) (fun s : ByteArray => #[.string s]) (fun s => s.size ≤ maxLen) ⟨#[]⟩ (by omega) (fun _ => rfl) Tryz.underlying23 cellsSw (fun hl h => open_stR hl h) h13
    obtain ⟨A2, n2, d2, l2, q14, z2, r2, m2, f2⟩ := rd_rowX Wr.cells Wr.fits ⟨0, 0, 0, ⟨#[]⟩, 0, 0, ⟨#[]⟩, 0, 0, ⟨#[]⟩⟩ (by omega) (fun _ => rfl) Tryz.underlying24 cellsWw (fun hl h => open_wrW hl h) h14
    obtain ⟨A3, n3, d3, l3, q15, z3, r3, m3, f3⟩ := rd_rowX Ln.cells Ln.fits ⟨0, ⟨0, 0, 0, ⟨#[]⟩, 0, 0, ⟨#[]⟩, 0, 0, ⟨#[]⟩⟩⟩ (by omega) (fun _ => rfl) Tryz.underlying25 cellsLr (fun hl h => open_lnR hl h) h15
    obtain ⟨A4, n4, d4, l4, q16, z4, r4, m4, f4⟩ := rd_rowX Cl.cells Cl.fits ⟨⟨#[]⟩, 0, 0, ⟨#[]⟩⟩ (by omega) (fun _ => rfl) Tryz.underlying26 cellsCr (fun hl h => open_clR hl h) h16
    obtain ⟨us, m5, _, _, _, ul, ux⟩ := DataW.trod_array Tryz.underlying28 h17
    obtain ⟨w0, g0⟩ := arr_getR ul (i := 0) (by omega)
    have t0 := (ux 0 (by omega)).trans g0
    obtain ⟨w1, g1⟩ := arr_getR ul (i := 1) (by omega)
    have t1 := (ux 1 (by omega)).trans g1
    obtain ⟨w2, g2⟩ := arr_getR ul (i := 2) (by omega)
    have t2 := (ux 2 (by omega)).trans g2
    obtain ⟨w3, g3⟩ := arr_getR ul (i := 3) (by omega)
    have t3 := (ux 3 (by omega)).trans g3
    obtain ⟨w4, g4⟩ := arr_getR ul (i := 4) (by omega)
    have t4 := (ux 4 (by omega)).trans g4
    obtain ⟨w5, g5⟩ := arr_getR ul (i := 5) (by omega)
    have t5 := (ux 5 (by omega)).trans g5
    obtain ⟨w6, g6⟩ := arr_getR ul (i := 6) (by omega)
    have t6 := (ux 6 (by omega)).trans g6
    obtain ⟨w7, g7⟩ := arr_getR ul (i := 7) (by omega)
    have t7 := (ux 7 (by omega)).trans g7
    obtain ⟨w8, g8⟩ := arr_getR ul (i := 8) (by omega)
    have t8 := (ux 8 (by omega)).trans g8
    obtain ⟨w9, g9⟩ := arr_getR ul (i := 9) (by omega)
    have t9 := (ux 9 (by omega)).trans g9
    obtain ⟨w10, g10⟩ := arr_getR ul (i := 10) (by omega)
    have t10 := (ux 10 (by omega)).trans g10
    obtain ⟨w11, g11⟩ := arr_getR ul (i := 11) (by omega)
    have t11 := (ux 11 (by omega)).trans g11
    simp only [cellsIw, Nat.mul_one, List.drop_zero, List.drop_succ_cons, List.take_succ_cons, List.take_zero] at t0 t1 t2 t3 t4 t5 t6 t7 t8 t9 t10 t11
    obtain ⟨a0, s0, _, _⟩ := DataW.trod_int Tryz.underlying3 t0
    obtain ⟨a1, s1, _, _⟩ := DataW.trod_int Tryz.underlying3 t1
    obtain ⟨a2, s2, _, _⟩ := DataW.trod_int Tryz.underlying3 t2
    obtain ⟨a3, s3, _, _⟩ := DataW.trod_int Tryz.underlying3 t3
    obtain ⟨a4, s4, _, _⟩ := DataW.trod_int Tryz.underlying3 t4
    obtain ⟨a5, s5, _, _⟩ := DataW.trod_int Tryz.underlying3 t5
    obtain ⟨a6, s6, _, _⟩ := DataW.trod_int Tryz.underlying3 t6
    obtain ⟨a7, s7, _, _⟩ := DataW.trod_int Tryz.underlying3 t7
    obtain ⟨a8, s8, _, _⟩ := DataW.trod_int Tryz.underlying3 t8
    obtain ⟨a9, s9, _, _⟩ := DataW.trod_int Tryz.underlying3 t9
    obtain ⟨a10, s10, _, _⟩ := DataW.trod_int Tryz.underlying3 t10
    obtain ⟨a11, s11, _, _⟩ := DataW.trod_int Tryz.underlying3 t11
    have e13 := len1 q13
    have e14 := len1 q14
    have e15 := len1 q15
    have e16 := len1 q16
    simp at q0 q1 q2 q3 q4 q5 q6 q7 q8 q9 q10 q11 q12 s0 s1 s2 s3 s4 s5 s6 s7 s8 s9 s10 s11
    subst q0 q1 q2 q3 q4 q5 q6 q7 q8 q9 q10 q11 q12 e13 e14 e15 e16 s0 s1 s2 s3 s4 s5 s6 s7 s8 s9 s10 s11
    exact ⟨⟨k0, k1, k2, k3, k4, k5, k6, k7, k8, k9, k10, k11, k12, l1, l2, l3, l4, a0, a1, a2, a3, a4, a5, a6, a7, a8, a9, a10, a11⟩, ⟨A1, A2, A3, A4, n1, d1, n2, d2, n3, d3, n4, d4⟩, rfl, ⟨z1, rds_of1 r1, z2, rdw_of r2, z3, r3, z4, r4⟩, ⟨f1, f2, f3, f4, by rw [z1]; exact m1, by rw [z2]; exact m2, by rw [z3]; exact m3, by rw [z4]; exact m4⟩⟩
end
end Go.Proofs.YtfpfalgbkbmkeaaGreatDoor

namespace Go.Proofs.YtfpfalgbkbmkeaaGreatDoor
open Go.RowKit

/-- A letter's cells, with their types: the document's. -/
def ltCD (x : Lt) (h : Hn) (j : Nat) : Option (TypeId × Value) := match j with
  | 0 => some (3, .int .i64 x.k)
  | 1 => some (3, .int .i64 x.fr)
  | 2 => some (3, .int .i64 x.tt)
  | 3 => some (3, .int .i64 x.li)
  | 4 => some (3, .int .i64 x.tu)
  | 5 => some (3, .int .i64 x.pr)
  | 6 => some (3, .int .i64 x.lo)
  | 7 => some (3, .int .i64 x.fi)
  | 8 => some (3, .int .i64 x.st)
  | 9 => some (3, .int .i64 x.ta)
  | 10 => some (3, .int .i64 x.sr)
  | 11 => some (3, .int .i64 x.en)
  | 12 => some (4, .bool x.sn)
  | 13 => some (23, .slice h.A1 h.n1 h.c1)
  | 14 => some (24, .slice h.A2 h.n2 h.c2)
  | 15 => some (39, .slice h.A3 h.n3 h.c3)
  | 16 => some (26, .slice h.A4 h.n4 h.c4)
  | 17 => some (27, .agg (laI x.a0 x.a1 x.a2 x.a3 x.a4 x.a5 x.a6 x.a7 x.a8 x.a9 x.a10 x.a11))
  | _ => none
section
variable {l : List Oper} {Q : Exit → Act → World → Prop} {rest : List Oper} {a0 : Act} {L : List (Nat × Bool × Value)} {w : World} {b : Nat} {x : Lt} {h : Hn}
theorem ld_a0 (W : World) (b : Nat) : (Instr.fieldAt 41 (.pointer (some ⟨b, 0, none⟩)) 0).run Tryz.prog W = .ok (.pointer (some ⟨b, 0, none⟩)) W := by kernel_rfl
theorem ld_a1 (W : World) (b : Nat) : (Instr.fieldAt 41 (.pointer (some ⟨b, 0, none⟩)) 1).run Tryz.prog W = .ok (.pointer (some ⟨b, 1, none⟩)) W := by kernel_rfl
theorem ld_a2 (W : World) (b : Nat) : (Instr.fieldAt 41 (.pointer (some ⟨b, 0, none⟩)) 2).run Tryz.prog W = .ok (.pointer (some ⟨b, 2, none⟩)) W := by kernel_rfl
theorem ld_a3 (W : World) (b : Nat) : (Instr.fieldAt 41 (.pointer (some ⟨b, 0, none⟩)) 3).run Tryz.prog W = .ok (.pointer (some ⟨b, 3, none⟩)) W := by kernel_rfl
theorem ld_a4 (W : World) (b : Nat) : (Instr.fieldAt 41 (.pointer (some ⟨b, 0, none⟩)) 4).run Tryz.prog W = .ok (.pointer (some ⟨b, 4, none⟩)) W := by kernel_rfl
theorem ld_a5 (W : World) (b : Nat) : (Instr.fieldAt 41 (.pointer (some ⟨b, 0, none⟩)) 5).run Tryz.prog W = .ok (.pointer (some ⟨b, 5, none⟩)) W := by kernel_rfl
theorem ld_a6 (W : World) (b : Nat) : (Instr.fieldAt 41 (.pointer (some ⟨b, 0, none⟩)) 6).run Tryz.prog W = .ok (.pointer (some ⟨b, 6, none⟩)) W := by kernel_rfl
theorem ld_a7 (W : World) (b : Nat) : (Instr.fieldAt 41 (.pointer (some ⟨b, 0, none⟩)) 7).run Tryz.prog W = .ok (.pointer (some ⟨b, 7, none⟩)) W := by kernel_rfl
theorem ld_a8 (W : World) (b : Nat) : (Instr.fieldAt 41 (.pointer (some ⟨b, 0, none⟩)) 8).run Tryz.prog W = .ok (.pointer (some ⟨b, 8, none⟩)) W := by kernel_rfl
theorem ld_a9 (W : World) (b : Nat) : (Instr.fieldAt 41 (.pointer (some ⟨b, 0, none⟩)) 9).run Tryz.prog W = .ok (.pointer (some ⟨b, 9, none⟩)) W := by kernel_rfl
theorem ld_a10 (W : World) (b : Nat) : (Instr.fieldAt 41 (.pointer (some ⟨b, 0, none⟩)) 10).run Tryz.prog W = .ok (.pointer (some ⟨b, 10, none⟩)) W := by kernel_rfl
theorem ld_a11 (W : World) (b : Nat) : (Instr.fieldAt 41 (.pointer (some ⟨b, 0, none⟩)) 11).run Tryz.prog W = .ok (.pointer (some ⟨b, 11, none⟩)) W := by kernel_rfl
theorem ld_a12 (W : World) (b : Nat) : (Instr.fieldAt 41 (.pointer (some ⟨b, 0, none⟩)) 12).run Tryz.prog W = .ok (.pointer (some ⟨b, 12, none⟩)) W := by kernel_rfl
theorem ld_a13 (W : World) (b : Nat) : (Instr.fieldAt 41 (.pointer (some ⟨b, 0, none⟩)) 13).run Tryz.prog W = .ok (.pointer (some ⟨b, 13, none⟩)) W := by kernel_rfl
theorem ld_a14 (W : World) (b : Nat) : (Instr.fieldAt 41 (.pointer (some ⟨b, 0, none⟩)) 14).run Tryz.prog W = .ok (.pointer (some ⟨b, 14, none⟩)) W := by kernel_rfl
theorem ld_a15 (W : World) (b : Nat) : (Instr.fieldAt 41 (.pointer (some ⟨b, 0, none⟩)) 15).run Tryz.prog W = .ok (.pointer (some ⟨b, 15, none⟩)) W := by kernel_rfl
theorem ld_a16 (W : World) (b : Nat) : (Instr.fieldAt 41 (.pointer (some ⟨b, 0, none⟩)) 16).run Tryz.prog W = .ok (.pointer (some ⟨b, 16, none⟩)) W := by kernel_rfl
theorem ld_a17 (W : World) (b : Nat) : (Instr.fieldAt 41 (.pointer (some ⟨b, 0, none⟩)) 17).run Tryz.prog W = .ok (.pointer (some ⟨b, 17, none⟩)) W := by kernel_rfl
theorem ld_l0 {ad : Addr} {v : Value} (q : w.cell? ad = some v) : (Instr.loadAt 3 (.pointer (some ad))).run Tryz.prog w = .ok v w := by go_simp
theorem ld_l12 {ad : Addr} {v : Value} (q : w.cell? ad = some v) : (Instr.loadAt 4 (.pointer (some ad))).run Tryz.prog w = .ok v w := by go_simp
theorem ld_l13 {ad : Addr} {v : Value} (q : w.cell? ad = some v) : (Instr.loadAt 23 (.pointer (some ad))).run Tryz.prog w = .ok v w := by go_simp
theorem ld_l14 {ad : Addr} {v : Value} (q : w.cell? ad = some v) : (Instr.loadAt 24 (.pointer (some ad))).run Tryz.prog w = .ok v w := by go_simp
theorem ld_l15 {ad : Addr} {v : Value} (q : w.cell? ad = some v) : (Instr.loadAt 39 (.pointer (some ad))).run Tryz.prog w = .ok v w := by go_simp
theorem ld_l16 {ad : Addr} {v : Value} (q : w.cell? ad = some v) : (Instr.loadAt 26 (.pointer (some ad))).run Tryz.prog w = .ok v w := by go_simp
theorem ld_l17 (hX : Blk w b (ltI x h) 41) : (Instr.loadAt 27 (.pointer (some ⟨b, 17, none⟩))).run Tryz.prog w = .ok (.agg (laI x.a0 x.a1 x.a2 x.a3 x.a4 x.a5 x.a6 x.a7 x.a8 x.a9 x.a10 x.a11)) w :=
  run_loadAt_mid w b 17 _ (laI x.a0 x.a1 x.a2 x.a3 x.a4 x.a5 x.a6 x.a7 x.a8 x.a9 x.a10 x.a11).toList _ (fun j v hv => (hX.cell (17 + j)).trans (by
    have hj : j < 12 := by have := (List.getElem?_eq_some_iff.1 hv).1; simpa using this
    match j, hj with
    | 0, _ => exact hv | 1, _ => exact hv | 2, _ => exact hv | 3, _ => exact hv | 4, _ => exact hv | 5, _ => exact hv | 6, _ => exact hv | 7, _ => exact hv | 8, _ => exact hv | 9, _ => exact hv | 10, _ => exact hv | 11, _ => exact hv)) Tryz.underlying27 rfl (by kernel_rfl)
theorem ld_all (hX : Blk w b (ltI x h) 41) : (Instr.loadAt 41 (.pointer (some ⟨b, 0, none⟩))).run Tryz.prog w = .ok (.agg (ltI x h)) w :=
  run_loadAt_mid w b 0 _ (ltI x h).toList _ (fun j v hv => by rw [Nat.zero_add, hX.cell j]; exact (Array.getElem?_toList ..).symm.trans hv) Tryz.underlying41 rfl (by kernel_rfl)
theorem ld_at {j : Nat} {t : TypeId} {v : Value} (hX : Blk w b (ltI x h) 41) (hv : ltCD x h j = some (t, v)) : (Instr.loadAt t (.pointer (some ⟨b, j, none⟩))).run Tryz.prog w = .ok v w := by
  match j, hv with
  | 0, hv => cases hv; exact ld_l0 (hX.cell 0)
  | 1, hv => cases hv; exact ld_l0 (hX.cell 1)
  | 2, hv => cases hv; exact ld_l0 (hX.cell 2)
  | 3, hv => cases hv; exact ld_l0 (hX.cell 3)
  | 4, hv => cases hv; exact ld_l0 (hX.cell 4)
  | 5, hv => cases hv; exact ld_l0 (hX.cell 5)
  | 6, hv => cases hv; exact ld_l0 (hX.cell 6)
  | 7, hv => cases hv; exact ld_l0 (hX.cell 7)
  | 8, hv => cases hv; exact ld_l0 (hX.cell 8)
  | 9, hv => cases hv; exact ld_l0 (hX.cell 9)
  | 10, hv => cases hv; exact ld_l0 (hX.cell 10)
  | 11, hv => cases hv; exact ld_l0 (hX.cell 11)
  | 12, hv => cases hv; exact ld_l12 (hX.cell 12)
  | 13, hv => cases hv; exact ld_l13 (hX.cell 13)
  | 14, hv => cases hv; exact ld_l14 (hX.cell 14)
  | 15, hv => cases hv; exact ld_l15 (hX.cell 15)
  | 16, hv => cases hv; exact ld_l16 (hX.cell 16)
  | 17, hv => cases hv; exact ld_l17 hX
theorem ld_ad {f : Nat} (hf : Nat.blt f 18 = true) : (Instr.fieldAt 41 (.pointer (some ⟨b, 0, none⟩)) f).run Tryz.prog w = .ok (.pointer (some ⟨b, f, none⟩)) w := by
  match f, hf with
  | 0, _ => exact ld_a0 w b
  | 1, _ => exact ld_a1 w b
  | 2, _ => exact ld_a2 w b
  | 3, _ => exact ld_a3 w b
  | 4, _ => exact ld_a4 w b
  | 5, _ => exact ld_a5 w b
  | 6, _ => exact ld_a6 w b
  | 7, _ => exact ld_a7 w b
  | 8, _ => exact ld_a8 w b
  | 9, _ => exact ld_a9 w b
  | 10, _ => exact ld_a10 w b
  | 11, _ => exact ld_a11 w b
  | 12, _ => exact ld_a12 w b
  | 13, _ => exact ld_a13 w b
  | 14, _ => exact ld_a14 w b
  | 15, _ => exact ld_a15 w b
  | 16, _ => exact ld_a16 w b
  | 17, _ => exact ld_a17 w b
theorem g_fdD {i f d n : Nat} {ty : TypeId} {p : String} {af : Array Edge} {gd : Option (Nat × Bool)} {g gi : Bool} (hn : a0.tmps.size = n) (k : FL Tryz.prog l Q rest a0 ((d, g, (.pointer (some ⟨b, f, none⟩))) :: L) w) (hd : Nat.blt d n = true := by rfl) (hw : wtG l L gd = some g := by rfl) (hl : lk L i = some (gi, .pointer (some ⟨b, 0, none⟩)) := by rfl) (hs : g = true → gi = true := by first | exact fun _ => rfl | exact id | exact and_l | exact fun h => and_l (and_l h) | exact fun h => and_l (and_l (and_l h)) | exact fun h => and_l (and_l (and_l (and_l h))) | exact fun h => and_l (and_l (and_l (and_l (and_l h))))) (hf : Nat.blt f 18 = true := by rfl) : FL Tryz.prog l Q (⟨some d, .fieldAddr 41 (.tmp i) f, ty, p, af, gd⟩ :: rest) a0 L w := fl_field hn hd hw hl hs (ld_ad hf) k
theorem g_ldD {i j d n : Nat} {t ty : TypeId} {p : String} {af : Array Edge} {gd : Option (Nat × Bool)} {g gi : Bool} {v : Value} (hn : a0.tmps.size = n) (hX : Blk w b (ltI x h) 41) (k : FL Tryz.prog l Q rest a0 ((d, g, v) :: L) w) (hd : Nat.blt d n = true := by rfl) (hw : wtG l L gd = some g := by rfl) (hl : lk L i = some (gi, .pointer (some ⟨b, j, none⟩)) := by rfl) (hs : g = true → gi = true := by first | exact fun _ => rfl | exact id | exact and_l | exact fun h => and_l (and_l h) | exact fun h => and_l (and_l (and_l h)) | exact fun h => and_l (and_l (and_l (and_l h))) | exact fun h => and_l (and_l (and_l (and_l (and_l h))))) (hv : ltCD x h j = some (t, v) := by rfl) : FL Tryz.prog l Q (⟨some d, .load t (.tmp i), ty, p, af, gd⟩ :: rest) a0 L w := fl_load hn hd hw hl hs (ld_at hX hv) k
theorem g_ldDA {i d n : Nat} {ty : TypeId} {p : String} {af : Array Edge} {gd : Option (Nat × Bool)} {g gi : Bool} (hn : a0.tmps.size = n) (hX : Blk w b (ltI x h) 41) (k : FL Tryz.prog l Q rest a0 ((d, g, .agg (ltI x h)) :: L) w) (hd : Nat.blt d n = true := by rfl) (hw : wtG l L gd = some g := by rfl) (hl : lk L i = some (gi, .pointer (some ⟨b, 0, none⟩)) := by rfl) (hs : g = true → gi = true := by first | exact fun _ => rfl | exact id | exact and_l | exact fun h => and_l (and_l h) | exact fun h => and_l (and_l (and_l h)) | exact fun h => and_l (and_l (and_l (and_l h))) | exact fun h => and_l (and_l (and_l (and_l (and_l h))))) : FL Tryz.prog l Q (⟨some d, .load 41 (.tmp i), ty, p, af, gd⟩ :: rest) a0 L w := fl_load hn hd hw hl hs (ld_all hX) k
end
end Go.Proofs.YtfpfalgbkbmkeaaGreatDoor

namespace Go.Proofs.YtfpfalgbkbmkeaaGreatDoor
open Go.RowKit
theorem rl_infoS : (Tryz.prog.info? 79).map (fun i => (i.zero, i.size, i.bytes)) = some (some (.agg (lnI 0 0 0 0 ⟨#[]⟩ 0 0 ⟨#[]⟩ 0 0 ⟨#[]⟩)), 11, 112) := by kernel_rfl
theorem map_getS {α β : Type} {f : α → β} {l : List α} {k : Nat} {x : α} (h : l[k]? = some x) : (l.map f)[k]? = some (f x) := by rw [List.getElem?_map, h]; rfl
attribute [local go_sem ↓] Go.wp_at_zero Go.wp_at_succ

open Classical in
/-- The same lists? -/
noncomputable def sameG {α : Type} (l l2 : List α) : Bool := decide (l = l2)
open Classical in
theorem sameG_no {α : Type} {l l2 : List α} (h : l ≠ l2) : sameG l l2 = false := decide_eq_false h
open Classical in
theorem sameG_yes {α : Type} {l l2 : List α} (h : l = l2) : sameG l l2 = true := decide_eq_true h
theorem cl_neq {x y : Cl} (h : x ≠ y) (W : World) : (binOp .neq 57 (.agg x.cells) (.agg y.cells)).run Tryz.prog W = .ok (.bool true) W := by
  go_simp
  intro h0 h1 h2 h3
  refine h ?_
  have e0 := str_ext h0
  have e3 := str_ext h3
  cases x
  cases y
  simp only at e0 h1 h2 e3
  simp only [e0, h1, h2, e3]
theorem cl_eq (x : Cl) (W : World) : (binOp .neq 57 (.agg x.cells) (.agg x.cells)).run Tryz.prog W = .ok (.bool false) W := by
  go_simp
theorem ln_neq {x y : Ln} (h : x ≠ y) (W : World) : (binOp .neq 79 (.agg x.cells) (.agg y.cells)).run Tryz.prog W = .ok (.bool true) W := by
  go_simp
  intro hp h0 h1 h2 h3 h4 h5 h6 h7 h8 h9
  refine h ?_
  have e3 := str_ext h3
  have e6 := str_ext h6
  have e9 := str_ext h9
  obtain ⟨px, x⟩ := x
  obtain ⟨py, y⟩ := y
  cases x
  cases y
  simp only at hp h0 h1 h2 e3 h4 h5 e6 h7 h8 e9
  simp only [hp, h0, h1, h2, e3, h4, h5, e6, h7, h8, e9]
theorem ln_eq (x : Ln) (W : World) : (binOp .neq 79 (.agg x.cells) (.agg x.cells)).run Tryz.prog W = .ok (.bool false) W := by
  go_simp

set_option maxRecDepth 100000 in
set_option maxHeartbeats 4000000 in
theorem refSameC_any {B C : Nat} (A A2 : Option Addr) (n c m d : Nat) (l l2 : List Cl) (w : World) (hn : l.length = n) (hr : RdX 4 B w A (l.map Cl.cells)) (hm : n ≤ 1000000) (hn2 : l2.length = m) (hr2 : RdX 4 C w A2 (l2.map Cl.cells)) :
    Calls Tryz.prog 39 #[.slice A n c, .slice A2 m d] w fun e w' => e = .returned (.bool (sameG l l2)) ∧ Drn w w' := by
  have HN := Lib.hid hn
  have HN2 := Lib.hid hn2
  by_cases hnm : n = m
  · subst hnm
    clear hn hn2
    go_enter Tryz.func39, Tryz.ntmps39
    go_wp2_with fail
    go_loopw [13] (fun i wr => ∃ k : Nat, k ≤ n ∧ i = .int .i64 k ∧ Hid (l.take k = l2.take k) ∧ Drn w wr) (fun i _ => n - (intOf i).toNat)
    case atStart => exact ⟨0, Nat.zero_le _, rfl, rfl, Drn.refl _⟩
    case round =>
      obtain ⟨k, hk, rfl, hA, hD⟩ := hrel
      by_cases hlt : k < n
      · obtain ⟨x, hx⟩ : ∃ x, l[k]? = some x := ⟨_, List.getElem?_eq_getElem (show k < l.length by have := HN.out; omega)⟩
        obtain ⟨y, hy⟩ : ∃ y, l2[k]? = some y := ⟨_, List.getElem?_eq_getElem (show k < l2.length by have := HN2.out; omega)⟩
        obtain ⟨ad, rfl, _, hc⟩ := (hr.keep (hD.below B) (Nat.le_refl _)) k _ (map_getS hx)
        obtain ⟨ad2, rfl, _, hc2⟩ := (hr2.keep (hD.below C) (Nat.le_refl _)) k _ (map_getS hy)
        have i1 : (0 : Int) ≤ (k : Int) := by omega
        have i2 : (k : Int) < (n : Int) := by omega
        have HX := Lib.hid hx
        have HY := Lib.hid hy
        clear hx hy
        have q0 : wr.cell? (ad.add (k * 4)) = some (.string x.ky) := (celX hc).1 _ rfl
        have q1 : wr.cell? ⟨(ad.add (k * 4)).block, (ad.add (k * 4)).off + 1, none⟩ = some (.int .i64 x.k) := (celX hc).2 0 _ rfl
        have q2 : wr.cell? ⟨(ad.add (k * 4)).block, (ad.add (k * 4)).off + 2, none⟩ = some (.int .i64 x.x) := (celX hc).2 1 _ rfl
        have q3 : wr.cell? ⟨(ad.add (k * 4)).block, (ad.add (k * 4)).off + 3, none⟩ = some (.string x.s) := (celX hc).2 2 _ rfl
        have y0 : wr.cell? (ad2.add (k * 4)) = some (.string y.ky) := (celX hc2).1 _ rfl
        have y1 : wr.cell? ⟨(ad2.add (k * 4)).block, (ad2.add (k * 4)).off + 1, none⟩ = some (.int .i64 y.k) := (celX hc2).2 0 _ rfl
        have y2 : wr.cell? ⟨(ad2.add (k * 4)).block, (ad2.add (k * 4)).off + 2, none⟩ = some (.int .i64 y.x) := (celX hc2).2 1 _ rfl
        have y3 : wr.cell? ⟨(ad2.add (k * 4)).block, (ad2.add (k * 4)).off + 3, none⟩ = some (.string y.s) := (celX hc2).2 2 _ rfl
        clear hc hc2
        by_cases hxy : x = y
        · subst hxy
          have he := fun W => cl_eq x W
          have HA2 : Hid (l.take (k + 1) = l2.take (k + 1)) := by
            show _ = _
            rw [List.take_add_one, List.take_add_one, HX.out, HY.out, hA.out]
          clear hA
          go_wp2_with fail
          go_quiet (fail)
          go_wp2_with fail
          go_roundw
          case rel => exact ⟨k + 1, by omega, by go_num, HA2, hD.draws _⟩
          case measure => simp [intOf]; omega
        · have he := fun W => cl_neq hxy W
          have R : Hid (sameG l l2 = false) := sameG_no fun e => by
            have h := HX.out
            rw [e, HY.out] at h
            injection h with h
            exact hxy h.symm
          clear hxy hA
          go_wp2_with fail
          go_quiet (fail)
          go_wp2_with fail
          go_ret
          exact ⟨ret_bool R.out.symm, hD.draws _⟩
      · have hq : ¬ (k : Int) < (n : Int) := by omega
        have R : Hid (sameG l l2 = true) := by
          refine sameG_yes ?_
          have h := hA.out
          rw [List.take_of_length_le (by have := HN.out; omega), List.take_of_length_le (by have := HN2.out; omega)] at h
          exact h
        clear hA
        go_wp2_with fail
        go_ret
        exact ⟨ret_bool R.out.symm, hD⟩
  · have e0 : ((n : Int) != (m : Int)) = true := by rw [bne_iff_ne]; omega
    have R : Hid (sameG l l2 = false) := sameG_no fun e => by
      have h := HN.out
      rw [e, HN2.out] at h
      exact hnm h.symm
    clear hnm
    go_enter Tryz.func39, Tryz.ntmps39
    go_wp2_with fail
    go_ret
    exact ⟨ret_bool R.out.symm, Drn.refl _⟩

set_option maxRecDepth 100000 in
set_option maxHeartbeats 4000000 in
theorem refSameL_any {B C : Nat} (A A2 : Option Addr) (n c m d : Nat) (l l2 : List Ln) (w : World) (hn : l.length = n) (hr : RdX 11 B w A (l.map Ln.cells)) (hm : n ≤ 1000000) (hn2 : l2.length = m) (hr2 : RdX 11 C w A2 (l2.map Ln.cells)) :
    Calls Tryz.prog 38 #[.slice A n c, .slice A2 m d] w fun e w' => e = .returned (.bool (sameG l l2)) ∧ Drn w w' := by
  have HN := Lib.hid hn
  have HN2 := Lib.hid hn2
  by_cases hnm : n = m
  · subst hnm
    clear hn hn2
    go_enter Tryz.func38, Tryz.ntmps38
    go_wp2_with fail
    go_loopw [13] (fun i wr => ∃ k : Nat, k ≤ n ∧ i = .int .i64 k ∧ Hid (l.take k = l2.take k) ∧ Drn w wr) (fun i _ => n - (intOf i).toNat)
    case atStart => exact ⟨0, Nat.zero_le _, rfl, rfl, Drn.refl _⟩
    case round =>
      obtain ⟨k, hk, rfl, hA, hD⟩ := hrel
      by_cases hlt : k < n
      · obtain ⟨x, hx⟩ : ∃ x, l[k]? = some x := ⟨_, List.getElem?_eq_getElem (show k < l.length by have := HN.out; omega)⟩
        obtain ⟨y, hy⟩ : ∃ y, l2[k]? = some y := ⟨_, List.getElem?_eq_getElem (show k < l2.length by have := HN2.out; omega)⟩
        obtain ⟨ad, rfl, _, hc⟩ := (hr.keep (hD.below B) (Nat.le_refl _)) k _ (map_getS hx)
        obtain ⟨ad2, rfl, _, hc2⟩ := (hr2.keep (hD.below C) (Nat.le_refl _)) k _ (map_getS hy)
        have i1 : (0 : Int) ≤ (k : Int) := by omega
        have i2 : (k : Int) < (n : Int) := by omega
        have HX := Lib.hid hx
        have HY := Lib.hid hy
        clear hx hy
        have q0 : wr.cell? (ad.add (k * 11)) = some (.int .i64 x.pl) := (celX hc).1 _ rfl
        have q1 : wr.cell? ⟨(ad.add (k * 11)).block, (ad.add (k * 11)).off + 1, none⟩ = some (.int .i64 x.w.dev) := (celX hc).2 0 _ rfl
        have q2 : wr.cell? ⟨(ad.add (k * 11)).block, (ad.add (k * 11)).off + 2, none⟩ = some (.int .i64 x.w.seq) := (celX hc).2 1 _ rfl
        have q3 : wr.cell? ⟨(ad.add (k * 11)).block, (ad.add (k * 11)).off + 3, none⟩ = some (.int .i64 x.w.K) := (celX hc).2 2 _ rfl
        have q4 : wr.cell? ⟨(ad.add (k * 11)).block, (ad.add (k * 11)).off + 4, none⟩ = some (.string x.w.ky) := (celX hc).2 3 _ rfl
        have q5 : wr.cell? ⟨(ad.add (k * 11)).block, (ad.add (k * 11)).off + 5, none⟩ = some (.int .i64 x.w.ka) := (celX hc).2 4 _ rfl
        have q6 : wr.cell? ⟨(ad.add (k * 11)).block, (ad.add (k * 11)).off + 6, none⟩ = some (.int .i64 x.w.na) := (celX hc).2 5 _ rfl
        have q7 : wr.cell? ⟨(ad.add (k * 11)).block, (ad.add (k * 11)).off + 7, none⟩ = some (.string x.w.sa) := (celX hc).2 6 _ rfl
        have q8 : wr.cell? ⟨(ad.add (k * 11)).block, (ad.add (k * 11)).off + 8, none⟩ = some (.int .i64 x.w.kb) := (celX hc).2 7 _ rfl
        have q9 : wr.cell? ⟨(ad.add (k * 11)).block, (ad.add (k * 11)).off + 9, none⟩ = some (.int .i64 x.w.nb) := (celX hc).2 8 _ rfl
        have q10 : wr.cell? ⟨(ad.add (k * 11)).block, (ad.add (k * 11)).off + 10, none⟩ = some (.string x.w.sb) := (celX hc).2 9 _ rfl
        have y0 : wr.cell? (ad2.add (k * 11)) = some (.int .i64 y.pl) := (celX hc2).1 _ rfl
        have y1 : wr.cell? ⟨(ad2.add (k * 11)).block, (ad2.add (k * 11)).off + 1, none⟩ = some (.int .i64 y.w.dev) := (celX hc2).2 0 _ rfl
        have y2 : wr.cell? ⟨(ad2.add (k * 11)).block, (ad2.add (k * 11)).off + 2, none⟩ = some (.int .i64 y.w.seq) := (celX hc2).2 1 _ rfl
        have y3 : wr.cell? ⟨(ad2.add (k * 11)).block, (ad2.add (k * 11)).off + 3, none⟩ = some (.int .i64 y.w.K) := (celX hc2).2 2 _ rfl
        have y4 : wr.cell? ⟨(ad2.add (k * 11)).block, (ad2.add (k * 11)).off + 4, none⟩ = some (.string y.w.ky) := (celX hc2).2 3 _ rfl
        have y5 : wr.cell? ⟨(ad2.add (k * 11)).block, (ad2.add (k * 11)).off + 5, none⟩ = some (.int .i64 y.w.ka) := (celX hc2).2 4 _ rfl
        have y6 : wr.cell? ⟨(ad2.add (k * 11)).block, (ad2.add (k * 11)).off + 6, none⟩ = some (.int .i64 y.w.na) := (celX hc2).2 5 _ rfl
        have y7 : wr.cell? ⟨(ad2.add (k * 11)).block, (ad2.add (k * 11)).off + 7, none⟩ = some (.string y.w.sa) := (celX hc2).2 6 _ rfl
        have y8 : wr.cell? ⟨(ad2.add (k * 11)).block, (ad2.add (k * 11)).off + 8, none⟩ = some (.int .i64 y.w.kb) := (celX hc2).2 7 _ rfl
        have y9 : wr.cell? ⟨(ad2.add (k * 11)).block, (ad2.add (k * 11)).off + 9, none⟩ = some (.int .i64 y.w.nb) := (celX hc2).2 8 _ rfl
        have y10 : wr.cell? ⟨(ad2.add (k * 11)).block, (ad2.add (k * 11)).off + 10, none⟩ = some (.string y.w.sb) := (celX hc2).2 9 _ rfl
        clear hc hc2
        by_cases hxy : x = y
        · subst hxy
          have he := fun W => ln_eq x W
          have HA2 : Hid (l.take (k + 1) = l2.take (k + 1)) := by
            show _ = _
            rw [List.take_add_one, List.take_add_one, HX.out, HY.out, hA.out]
          clear hA
          go_wp2_with fail
          go_quiet (fail)
          go_wp2_with fail
          go_roundw
          case rel => exact ⟨k + 1, by omega, by go_num, HA2, hD.draws _⟩
          case measure => simp [intOf]; omega
        · have he := fun W => ln_neq hxy W
          have R : Hid (sameG l l2 = false) := sameG_no fun e => by
            have h := HX.out
            rw [e, HY.out] at h
            injection h with h
            exact hxy h.symm
          clear hxy hA
          go_wp2_with fail
          go_quiet (fail)
          go_wp2_with fail
          go_ret
          exact ⟨ret_bool R.out.symm, hD.draws _⟩
      · have hq : ¬ (k : Int) < (n : Int) := by omega
        have R : Hid (sameG l l2 = true) := by
          refine sameG_yes ?_
          have h := hA.out
          rw [List.take_of_length_le (by have := HN.out; omega), List.take_of_length_le (by have := HN2.out; omega)] at h
          exact h
        clear hA
        go_wp2_with fail
        go_ret
        exact ⟨ret_bool R.out.symm, hD⟩
  · have e0 : ((n : Int) != (m : Int)) = true := by rw [bne_iff_ne]; omega
    have R : Hid (sameG l l2 = false) := sameG_no fun e => by
      have h := HN.out
      rw [e, HN2.out] at h
      exact hnm h.symm
    clear hnm
    go_enter Tryz.func38, Tryz.ntmps38
    go_wp2_with fail
    go_ret
    exact ⟨ret_bool R.out.symm, Drn.refl _⟩

set_option maxRecDepth 100000 in
set_option maxHeartbeats 4000000 in
theorem lines_any {B : Nat} (A : Option Addr) (n c : Nat) (l : List Ln) (w : World) (hn : l.length = n) (hr : RdX 11 B w A (l.map Ln.cells)) (hB : B ≤ w.heap.size) (hm : n ≤ 1000000000) :
    Calls Tryz.prog 22 #[.slice A n c] w fun e w' => (∃ (A' : Option Addr) (c' : Nat), e = .returned (.slice A' n c') ∧ OwnX 79 11 w.heap.size w' A' n c' (l.map Ln.cells)) ∧ Below w.heap.size w w' := by
  obtain ⟨i0, hi0, hz0, hz1, hz2⟩ := info_parts rl_infoS
  have HN := Lib.hid hn
  have HR := Lib.hid (fun W (h : Below w.heap.size w W) => hr.keep (W' := W) h hB)
  clear hn hr
  go_enter Tryz.func22, Tryz.ntmps22
  go_wp2_with fail
  go_loopw [3, 8] (fun u i wr => ∃ (k : Nat) (A3 : Option Addr) (c3 : Nat), k ≤ n ∧ i = .int .i64 k ∧ u = .slice A3 k c3 ∧ OwnX 79 11 w.heap.size wr A3 k c3 ((l.take k).map Ln.cells) ∧ Below w.heap.size w wr) (fun _ i _ => n - (intOf i).toNat)
  case atStart => exact ⟨0, none, 0, Nat.zero_le _, rfl, rfl, OwnX.nil _ _ _ _, Below.refl _ _⟩
  case round =>
    obtain ⟨k, A3, c3, hk, rfl, rfl, hO, hW⟩ := hrel
    by_cases hlt : k < n
    · obtain ⟨x, hx⟩ : ∃ x, l[k]? = some x := ⟨_, List.getElem?_eq_getElem (show k < l.length by have := HN.out; omega)⟩
      obtain ⟨ad, rfl, _, hc⟩ := HR.out wr hW k _ (map_getS hx)
      have i1 : (0 : Int) ≤ (k : Int) := by omega
      have i2 : (k : Int) < (n : Int) := by omega
      have HL : Hid ((l.take (k + 1)).map Ln.cells = (l.take k).map Ln.cells ++ [x.cells]) := by
        show _ = _
        rw [List.take_add_one, hx, List.map_append]
        rfl
      clear hx
      have q0 : wr.cell? (ad.add (k * 11)) = some (.int .i64 x.pl) := (celX hc).1 _ rfl
      have q1 : wr.cell? ⟨(ad.add (k * 11)).block, (ad.add (k * 11)).off + 1, none⟩ = some (.int .i64 x.w.dev) := (celX hc).2 0 _ rfl
      have q2 : wr.cell? ⟨(ad.add (k * 11)).block, (ad.add (k * 11)).off + 2, none⟩ = some (.int .i64 x.w.seq) := (celX hc).2 1 _ rfl
      have q3 : wr.cell? ⟨(ad.add (k * 11)).block, (ad.add (k * 11)).off + 3, none⟩ = some (.int .i64 x.w.K) := (celX hc).2 2 _ rfl
      have q4 : wr.cell? ⟨(ad.add (k * 11)).block, (ad.add (k * 11)).off + 4, none⟩ = some (.string x.w.ky) := (celX hc).2 3 _ rfl
      have q5 : wr.cell? ⟨(ad.add (k * 11)).block, (ad.add (k * 11)).off + 5, none⟩ = some (.int .i64 x.w.ka) := (celX hc).2 4 _ rfl
      have q6 : wr.cell? ⟨(ad.add (k * 11)).block, (ad.add (k * 11)).off + 6, none⟩ = some (.int .i64 x.w.na) := (celX hc).2 5 _ rfl
      have q7 : wr.cell? ⟨(ad.add (k * 11)).block, (ad.add (k * 11)).off + 7, none⟩ = some (.string x.w.sa) := (celX hc).2 6 _ rfl
      have q8 : wr.cell? ⟨(ad.add (k * 11)).block, (ad.add (k * 11)).off + 8, none⟩ = some (.int .i64 x.w.kb) := (celX hc).2 7 _ rfl
      have q9 : wr.cell? ⟨(ad.add (k * 11)).block, (ad.add (k * 11)).off + 9, none⟩ = some (.int .i64 x.w.nb) := (celX hc).2 8 _ rfl
      have q10 : wr.cell? ⟨(ad.add (k * 11)).block, (ad.add (k * 11)).off + 10, none⟩ = some (.string x.w.sb) := (celX hc).2 9 _ rfl
      clear hc
      go_upto_region 5 with fail
      have hX := blk_new wr x.cells 140
      have hW1 := ba hW (.cells x.cells 140)
      have hO1 := hO.keep (b0 wr (.cells x.cells 140))
      clear q0 q1 q2 q3 q4 q5 q6 q7 q8 q9 q10 hO hW
      generalize wr.alloc (.cells x.cells 140) = W1 at hX hW1 hO1 ⊢
      generalize wr.heap.size = bx at hX ⊢
      have c0 := hX.cell 0
      have c1 := hX.cell 1
      have c2 := hX.cell 2
      have c3 := hX.cell 3
      have c4 := hX.cell 4
      have c5 := hX.cell 5
      have c6 := hX.cell 6
      have c7 := hX.cell 7
      have c8 := hX.cell 8
      have c9 := hX.cell 9
      have c10 := hX.cell 10
      have hxx := newX W1 x.cells 79
      have hO2 := hO1.keep (b0 W1 (.cells x.cells 79))
      have hW2 := ba hW1 (.cells x.cells 79)
      have hz := hW2.size
      have hkb : k ≤ 1000000000 := by omega
      clear hO1 hW1
      go_wp2_with (at_builtin; refine wpList_apX (el := 79) (base := w.heap.size) (n := k) (l := (l.take k).map Ln.cells) (xx := x.cells) (by rfl) _ _ (by rfl) Tryz.underlying39 Tryz.underlying39 hi0 hz0 hz1 hz2 (by rfl) (by omega) (by omega) (by rfl) (by rfl) hO2 (by rfl) (ln_one x) hxx hkb hz ?_; intro A5 c5 w5 hO5 hb5)
      rw [← HL.out] at hO5
      go_roundw
      case rel => exact ⟨k + 1, A5, c5, by omega, by go_num, rfl, hO5, hW2.trans hb5⟩
      case measure => simp [intOf]; omega
    · have hq : ¬ (k : Int) < (n : Int) := by omega
      have hkn : k = n := by omega
      subst hkn
      have e : (l.take k).map Ln.cells = l.map Ln.cells := by rw [List.take_of_length_le (by have := HN.out; omega)]
      rw [e] at hO
      clear e
      go_wp2_with fail
      go_ret
      exact ⟨⟨A3, c3, rfl, hO⟩, hW⟩
end Go.Proofs.YtfpfalgbkbmkeaaGreatDoor
