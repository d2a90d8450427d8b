/-
  WHAT IS PROVED: an argument that is a slice of writes, opened (own work, over any program that bears the types named). · words for arrays of twelve numbers: as a list, in a block, loaded whole or by a cell. Conditions: those typed in each theorem. · arguments that are twelve numbers, or an id: opened (own work, over any program that bears the types named). · string(..) of bytes that are read (own work); over any program that bears the types named. · plain facts, and, as definitions, what the walks of layer 5's statements take of package pack's calls (a reader is any predicate of worlds that its calls carry). The definitions are proved elsewhere, of the code itself. The chapter's examples hold, if the calls answer so.
-/
import Derived.Test.YtkfhkfddhijkcaaGQ1
import Derived.Test.YtkfhkfddhijkcaaGQ3
import Derived.Lib.SmallJoins
import Derived.Deep.Slices
import Derived.Deep.MidRow
import Derived.Test.YtkfhkfddhijkcaaBytes
namespace Go.Proofs.Ytkfhkfddhijkcaa
open Go.RowKit Go.WideShapes Go.ChangeShapes

section
open Go.Joins Go.Deep
variable {H : Type} {enc : TypeId × Value → H}
theorem cellsWw : Try.prog.cellsOf 39 = 10 := by kernel_rfl
theorem cellsOw : Try.prog.cellsOf 37 = 8 := by kernel_rfl
theorem cellsDw : Try.prog.cellsOf 32 = 2 := by kernel_rfl
theorem cellsVw : Try.prog.cellsOf 35 = 3 := by kernel_rfl
theorem cellsIw : Try.prog.cellsOf 3 = 1 := by kernel_rfl
theorem cellsKw : Try.prog.cellsOf 33 = 1 := by kernel_rfl
theorem cellsSw : Try.prog.cellsOf 9 = 1 := by kernel_rfl

set_option maxRecDepth 100000 in
theorem open_valW {W : World} {base : Nat} {spare : Nat → Bool} {held : Bool} {fuel : Nat} {c0 c1 c2 : Value} {y : DataW H × List MemPlace} (h : DataW.trod enc Try.prog W base spare held fuel 35 [c0, c1, c2] = some y) :
    ∃ (k n : Int) (s : ByteArray), c0 = .int .i64 k ∧ c1 = .int .i64 n ∧ c2 = .string s ∧ (Lit.int .i64 n).wf = true ∧ s.size ≤ maxLen := by
  obtain ⟨y0, y1, y2, m, rfl, _, h0, h1, h2⟩ := trod_struct3 Try.underlying35 h
  simp only [cellsIw, cellsKw, cellsSw, List.drop_zero, List.drop_succ_cons, List.take_succ_cons, List.take_zero] at h0 h1 h2
  obtain ⟨k, e0, rfl, wk⟩ := DataW.trod_int Try.underlying33 h0
  obtain ⟨n, e1, rfl, wn⟩ := DataW.trod_int Try.underlying3 h1
  obtain ⟨s, e2, rfl, ws⟩ := DataW.trod_string Try.underlying9 h2
  simp at e0 e1 e2
  subst e0 e1 e2
  exact ⟨k, n, s, rfl, rfl, rfl, wn, ws⟩
set_option maxRecDepth 100000 in
theorem open_opW {W : World} {base : Nat} {spare : Nat → Bool} {held : Bool} {fuel : Nat} {c0 c1 c2 c3 c4 c5 c6 c7 : Value} {y : DataW H × List MemPlace} (h : DataW.trod enc Try.prog W base spare held fuel 37 [c0, c1, c2, c3, c4, c5, c6, c7] = some y) :
    ∃ (K : Int) (ky : ByteArray) (ka na : Int) (sa : ByteArray) (kb nb : Int) (sb : ByteArray), c0 = .int .i64 K ∧ c1 = .string ky ∧ c2 = .int .i64 ka ∧ c3 = .int .i64 na ∧ c4 = .string sa ∧ c5 = .int .i64 kb ∧ c6 = .int .i64 nb ∧ c7 = .string sb ∧
      ky.size ≤ maxLen ∧ (Lit.int .i64 na).wf = true ∧ sa.size ≤ maxLen ∧ (Lit.int .i64 nb).wf = true ∧ sb.size ≤ maxLen := by
  obtain ⟨y0, y1, y2, y3, n, _, _, h0, h1, h2, h3⟩ := trod_struct4 Try.underlying37 h
  simp only [cellsIw, cellsSw, cellsVw, List.drop_zero, List.drop_succ_cons, List.take_succ_cons, List.take_zero] at h0 h1 h2 h3
  obtain ⟨K, e0, rfl, wK⟩ := DataW.trod_int Try.underlying3 h0
  obtain ⟨ky, e1, rfl, wky⟩ := DataW.trod_string Try.underlying9 h1
  simp at e0 e1
  subst e0 e1
  obtain ⟨ka, na, sa, rfl, rfl, rfl, wna, wsa⟩ := open_valW h2
  obtain ⟨kb, nb, sb, rfl, rfl, rfl, wnb, wsb⟩ := open_valW h3
  exact ⟨K, ky, ka, na, sa, kb, nb, sb, rfl, rfl, rfl, rfl, rfl, rfl, rfl, rfl, wky, wna, wsa, wnb, wsb⟩
set_option maxRecDepth 100000 in
/-- Ten cells that read as a write. -/
theorem open_wrW {W : World} {base : Nat} {spare : Nat → Bool} {held : Bool} {fuel : Nat} {cs : List Value} {y : DataW H × List MemPlace} (hl : cs.length = 10) (h : DataW.trod enc Try.prog W base spare held fuel 39 cs = some y) : ∃ x : Wr, cs = x.cells.toList ∧ x.fits := by
  match cs, hl with
  | [c0, c1, c2, c3, c4, c5, c6, c7, c8, c9], _ =>
    obtain ⟨y0, y1, n, _, _, h0, h1⟩ := trod_struct2 Try.underlying39 h
    simp only [cellsDw, cellsOw, List.drop_zero, List.drop_succ_cons, List.take_succ_cons, List.take_zero] at h0 h1
    obtain ⟨z0, z1, n2, _, _, k0, k1⟩ := trod_struct2 Try.underlying32 h0
    simp only [cellsIw, List.drop_zero, List.drop_succ_cons, List.take_succ_cons, List.take_zero] at k0 k1
    obtain ⟨dev, e0, rfl, _⟩ := DataW.trod_int Try.underlying3 k0
    obtain ⟨seq, e1, rfl, _⟩ := DataW.trod_int Try.underlying3 k1
    simp at e0 e1
    subst e0 e1
    obtain ⟨K, ky, ka, na, sa, kb, nb, sb, rfl, rfl, rfl, rfl, rfl, rfl, rfl, rfl, wky, wna, wsa, wnb, wsb⟩ := open_opW h1
    exact ⟨⟨dev, seq, K, ky, ka, na, sa, kb, nb, sb⟩, rfl, wky, wsa, wsb, wf_i64 wna, wf_i64 wnb⟩
set_option maxRecDepth 100000 in
/-- An argument that is a slice of writes, opened. -/
theorem open_wrl {t : TypeId} (ht : Try.prog.underlying t = some (.slice 39)) {W : World} {r : Reach} {b0 : Nat} {v : Value} {d : DataW H} {p : List MemPlace} (hv : Value.okWide Try.prog W r b0 t v) (h : DataW.Trod enc Try.prog W 0 (fun _ => true) true t v d p) :
    ∃ (A : Option Addr) (n c : Nat) (l : List Wr), v = .slice A n c ∧ l.length = n ∧ RdW W.heap.size W A l ∧ n ≤ maxLen ∧ ∀ x, x ∈ l → x.fits := by
  obtain ⟨A, n, c, rfl⟩ := okWide_slice ht hv
  obtain ⟨fuel, hf⟩ := h
  rcases open_slice ht hf with ⟨hcs, _⟩ | ⟨a, len, cap, m, f, D, Pl, hcs, _, hl, hm, hmm, _, hi⟩
  · simp [Value.cells] at hcs
    obtain ⟨rfl, rfl, rfl⟩ := hcs
    exact ⟨none, 0, 0, [], rfl, rfl, RdW.nil _ _ _, Nat.zero_le _, fun x hx => by simp at hx⟩
  · simp [Value.cells] at hcs
    obtain ⟨rfl, rfl, rfl⟩ := hcs
    have hle : n ≤ m := by rw [hmm]; simp; omega
    have hx : ∀ i, ∃ x : Wr, i < n → x.fits ∧ ∀ j v, x.cells[j]? = some v → W.cell? (a.add (i * 10 + j)) = some v := by
      intro i
      by_cases hin : i < n
      · obtain ⟨cs', hc, ht'⟩ := hi i (by omega)
        rw [cellsWw] at hc
        obtain ⟨_, hlen, hcell⟩ := World.cells?_some hc
        obtain ⟨x, rfl, hfx⟩ := open_wrW hlen ht'
        refine ⟨x, fun _ => ⟨hfx, fun j v hj => ?_⟩⟩
        have hj10 : j < 10 := by
          have := (Array.getElem?_eq_some_iff.1 hj).1
          simpa using this
        rw [← add_add', hcell j hj10, Array.getElem?_toList]
        exact hj
      · exact ⟨⟨0, 0, 0, ⟨#[]⟩, 0, 0, ⟨#[]⟩, 0, 0, ⟨#[]⟩⟩, fun h => absurd h hin⟩
    have hF : ∃ f : Nat → Wr, ∀ i, i < n → (f i).fits ∧ ∀ j v, (f i).cells[j]? = some v → W.cell? (a.add (i * 10 + j)) = some v := ⟨fun i => Classical.choose (hx i), fun i => Classical.choose_spec (hx i)⟩
    obtain ⟨g, hg⟩ := hF
    refine ⟨some a, n, c, (List.range n).map g, rfl, by simp, fun k x hx => ?_, by omega, fun x hx => ?_⟩
    · have hk : k < n := by
        have := (List.getElem?_eq_some_iff.1 hx).1
        simpa using this
      have e : x = g k := by
        rw [List.getElem?_map, List.getElem?_range hk] at hx
        injection hx with hx
        exact hx.symm
      subst e
      have hc := (hg k hk).2 0 _ rfl
      have hb := World.block_lt_of_cell? W _ hc
      rw [add_block] at hb
      exact ⟨a, rfl, hb, (hg k hk).2⟩
    · obtain ⟨k, hk, rfl⟩ := List.mem_map.1 hx
      exact (hg k (List.mem_range.1 hk)).1
end
end Go.Proofs.Ytkfhkfddhijkcaa

namespace Go.Proofs.Ytkfhkfddhijkcaa
open Go.RowKit

abbrev laI (a0 a1 a2 a3 a4 a5 a6 a7 a8 a9 a10 a11 : Int) : Array Value := #[.int .i64 a0, .int .i64 a1, .int .i64 a2, .int .i64 a3, .int .i64 a4, .int .i64 a5, .int .i64 a6, .int .i64 a7, .int .i64 a8, .int .i64 a9, .int .i64 a10, .int .i64 a11]
abbrev laL (a0 a1 a2 a3 a4 a5 a6 a7 a8 a9 a10 a11 : Int) : List Int := [a0, a1, a2, a3, a4, a5, a6, a7, a8, a9, a10, a11]
/-- Twelve numbers as a list. -/
abbrev liA (l : List Int) : Array Value := (l.map (Value.int .i64)).toArray
def gI (l : List Int) (j : Nat) : Int := (l[j]?).getD 0
theorem li_cases {l : List Int} (hl : l.length = 12) : ∃ a0 a1 a2 a3 a4 a5 a6 a7 a8 a9 a10 a11 : Int, l = laL a0 a1 a2 a3 a4 a5 a6 a7 a8 a9 a10 a11 := by
  match l, hl with
  | [a0, a1, a2, a3, a4, a5, a6, a7, a8, a9, a10, a11], _ => exact ⟨a0, a1, a2, a3, a4, a5, a6, a7, a8, a9, a10, a11, rfl⟩
theorem gI_some {l : List Int} {j : Nat} (h : j < l.length) : l[j]? = some (gI l j) := by
  unfold gI
  rw [List.getElem?_eq_getElem h]
  rfl
theorem li_cell {W : World} {b : Nat} {l : List Int} {t : TypeId} (h : Blk W b (liA l) t) {j : Nat} (hj : j < l.length) : W.cell? ⟨b, j, none⟩ = some (.int .i64 (gI l j)) := by
  rw [h.cell j, List.getElem?_toArray, List.getElem?_map, gI_some hj]
  rfl
theorem li_set (l : List Int) (j : Nat) (v : Int) : (liA l).setIfInBounds j (.int .i64 v) = liA (l.set j v) := by
  show _ = ((l.set j v).map (Value.int .i64)).toArray
  rw [List.setIfInBounds_toArray, List.map_set]
theorem li_one (l : List Int) : (liA l).all (·.oneCell') = true := by
  rw [List.all_toArray]
  simp [Value.oneCell']
theorem li_size (l : List Int) : (liA l).size = l.length := by simp
/-- Twelve numbers out of a rule. -/
def mk12 (f : Nat → Int) : List Int := (List.range 12).map f
theorem mk12_len (f : Nat → Int) : (mk12 f).length = 12 := by unfold mk12; simp
theorem gI_mk {f : Nat → Int} {j : Nat} (h : j < 12) : gI (mk12 f) j = f j := by
  unfold gI mk12
  rw [List.getElem?_map, List.getElem?_range h]
  rfl
theorem mk12_ext {f g : Nat → Int} (h : ∀ j, j < 12 → f j = g j) : mk12 f = mk12 g := by
  unfold mk12
  exact List.map_congr_left fun j hj => h j (List.mem_range.1 hj)
theorem li_ext {a b : List Int} (ha : a.length = 12) (hb : b.length = 12) (h : ∀ j, j < 12 → gI a j = gI b j) : a = b := by
  refine List.ext_getElem? fun j => ?_
  by_cases hj : j < 12
  · rw [gI_some (by omega), gI_some (by omega), h j hj]
  · rw [List.getElem?_eq_none (by omega), List.getElem?_eq_none (by omega)]
theorem mk12_self {l : List Int} (h : l.length = 12) : mk12 (gI l) = l := li_ext (mk12_len _) h fun _ hj => gI_mk hj
theorem gI_set {l : List Int} {j k : Nat} {v : Int} (h : k < l.length) : gI (l.set j v) k = if j = k then v else gI l k := by
  unfold gI
  rw [List.getElem?_set]
  split
  · rename_i e
    subst e
    rw [if_pos h]
    rfl
  · rfl
theorem in_liL {l : List Int} (hl : l.length = 12) {j : Nat} (hj : j < 12) (W : World) : (Instr.index 29 (.agg (liA l)) (.int .i64 (j : Int))).run Try.prog W = .ok (.int .i64 (gI l j)) W := by
  have hz : Try.prog.arrayLen 29 = 12 := by kernel_rfl
  have hc : Try.prog.cellsOf 3 = 1 := by kernel_rfl
  have i1 : (0 : Int) ≤ (j : Int) := by omega
  have i2 : (j : Int) < 12 := by omega
  have hg : (liA l)[j]? = some (.int .i64 (gI l j)) := by
    rw [List.getElem?_toArray, List.getElem?_map, gI_some (by omega)]
    rfl
  have hsz : (liA l).size = 12 := by rw [li_size, hl]
  obtain ⟨a0, a1, a2, a3, a4, a5, a6, a7, a8, a9, a10, a11, rfl⟩ := li_cases hl
  simp [Instr.index, run_underlying Try.underlying29, asIntOf, go_sem]
  match j, hj with
  | 0, _ | 1, _ | 2, _ | 3, _ | 4, _ | 5, _ | 6, _ | 7, _ | 8, _ | 9, _ | 10, _ | 11, _ => rfl
theorem ld_liL {W : World} {b : Nat} {l : List Int} {t : TypeId} (h : Blk W b (liA l) t) (hl : l.length = 12) : (Instr.loadAt 29 (.pointer (some ⟨b, 0, none⟩))).run Try.prog W = .ok (.agg (liA l)) W := by
  obtain ⟨a0, a1, a2, a3, a4, a5, a6, a7, a8, a9, a10, a11, rfl⟩ := li_cases hl
  exact run_loadAt_mid W b 0 _ (laI a0 a1 a2 a3 a4 a5 a6 a7 a8 a9 a10 a11).toList _ (fun j v hv => by rw [Nat.zero_add, h.cell j]; exact (Array.getElem?_toList ..).symm.trans hv) Try.underlying29 rfl (by kernel_rfl)
theorem ix_liL (W : World) (g j : Nat) (h : j < 12) : (Instr.indexAt 29 (.pointer (some ⟨g, 0, none⟩)) (.int .i64 (j : Int))).run Try.prog W = .ok (.pointer (some ⟨g, j, none⟩)) W := by
  have hz : Try.prog.arrayLen 29 = 12 := by kernel_rfl
  have i1 : (0 : Int) ≤ (j : Int) := by omega
  have i2 : (j : Int) < 12 := by omega
  have e : (⟨g, 0, none⟩ : Addr).add j = ⟨g, j, none⟩ := by
    unfold Addr.add
    split
    · next h => rw [h]
    · rw [Nat.zero_add]
  go_simp
theorem ld_liA {W : World} {b : Nat} {l : List Int} {t : TypeId} (h : Blk W b (liA l) t) (hl : l.length = 12) : (Instr.loadAt 28 (.pointer (some ⟨b, 0, none⟩))).run Try.prog W = .ok (.agg (liA l)) W := by
  obtain ⟨a0, a1, a2, a3, a4, a5, a6, a7, a8, a9, a10, a11, rfl⟩ := li_cases hl
  exact run_loadAt_mid W b 0 _ (laI a0 a1 a2 a3 a4 a5 a6 a7 a8 a9 a10 a11).toList _ (fun j v hv => by rw [Nat.zero_add, h.cell j]; exact (Array.getElem?_toList ..).symm.trans hv) Try.underlying28 rfl (by kernel_rfl)
theorem ix_liA (W : World) (g j : Nat) (h : j < 12) : (Instr.indexAt 28 (.pointer (some ⟨g, 0, none⟩)) (.int .i64 (j : Int))).run Try.prog W = .ok (.pointer (some ⟨g, j, none⟩)) W := by
  have hz : Try.prog.arrayLen 28 = 12 := by kernel_rfl
  have i1 : (0 : Int) ≤ (j : Int) := by omega
  have i2 : (j : Int) < 12 := by omega
  have e : (⟨g, 0, none⟩ : Addr).add j = ⟨g, j, none⟩ := by
    unfold Addr.add
    split
    · next h => rw [h]
    · rw [Nat.zero_add]
  go_simp
end Go.Proofs.Ytkfhkfddhijkcaa

namespace Go.Proofs.Ytkfhkfddhijkcaa
open Go.RowKit Go.WideShapes Go.ChangeShapes

theorem okWide_arrR {P : Program} {w : World} {r : Reach} {base n : Nat} {t e : TypeId} {v : Value} (ht : P.underlying t = some (.array n e)) (h : Value.okWide P w r base t v) : ∃ cs, v = .agg cs ∧ cs.size = P.cellsOf t := by
  simp only [Value.okWide, ht] at h
  obtain ⟨cs, h1, h2, _⟩ := h
  exact ⟨cs, h1, h2⟩
section
open Go.Joins Go.Deep
variable {H : Type} {enc : TypeId × Value → H}
theorem cellsTr : Try.prog.cellsOf 29 = 12 := by kernel_rfl
theorem arr_getR {xs : List (DataW H × List MemPlace)} {n : Nat} (h : xs.length = n) {i : Nat} (hi : i < n) : ∃ y, xs[i]? = some y := ⟨xs[i], List.getElem?_eq_getElem (by omega)⟩
set_option maxRecDepth 100000 in
/-- An argument of twelve numbers, opened. -/
theorem open_lasts {W : World} {r : Reach} {b0 : Nat} {v : Value} {d : DataW H} {p : List MemPlace} (hv : Value.okWide Try.prog W r b0 29 v) (h : DataW.Trod enc Try.prog W 0 (fun _ => true) true 29 v d p) :
    ∃ a0 a1 a2 a3 a4 a5 a6 a7 a8 a9 a10 a11 : Int, v = .agg (laI a0 a1 a2 a3 a4 a5 a6 a7 a8 a9 a10 a11) := by
  obtain ⟨cs, rfl, hsz⟩ := okWide_arrR Try.underlying29 hv
  obtain ⟨l⟩ := cs
  match l, hsz.trans cellsTr with
  | [c0, c1, c2, c3, c4, c5, c6, c7, c8, c9, c10, c11], _ =>
    obtain ⟨fuel, hf⟩ := h
    obtain ⟨xs, m, _, _, _, hl, hx⟩ := DataW.trod_array Try.underlying29 hf
    obtain ⟨y0, e0⟩ := arr_getR hl (i := 0) (by omega)
    have h0 := (hx 0 (by omega)).trans e0
    obtain ⟨y1, e1⟩ := arr_getR hl (i := 1) (by omega)
    have h1 := (hx 1 (by omega)).trans e1
    obtain ⟨y2, e2⟩ := arr_getR hl (i := 2) (by omega)
    have h2 := (hx 2 (by omega)).trans e2
    obtain ⟨y3, e3⟩ := arr_getR hl (i := 3) (by omega)
    have h3 := (hx 3 (by omega)).trans e3
    obtain ⟨y4, e4⟩ := arr_getR hl (i := 4) (by omega)
    have h4 := (hx 4 (by omega)).trans e4
    obtain ⟨y5, e5⟩ := arr_getR hl (i := 5) (by omega)
    have h5 := (hx 5 (by omega)).trans e5
    obtain ⟨y6, e6⟩ := arr_getR hl (i := 6) (by omega)
    have h6 := (hx 6 (by omega)).trans e6
    obtain ⟨y7, e7⟩ := arr_getR hl (i := 7) (by omega)
    have h7 := (hx 7 (by omega)).trans e7
    obtain ⟨y8, e8⟩ := arr_getR hl (i := 8) (by omega)
    have h8 := (hx 8 (by omega)).trans e8
    obtain ⟨y9, e9⟩ := arr_getR hl (i := 9) (by omega)
    have h9 := (hx 9 (by omega)).trans e9
    obtain ⟨y10, e10⟩ := arr_getR hl (i := 10) (by omega)
    have h10 := (hx 10 (by omega)).trans e10
    obtain ⟨y11, e11⟩ := arr_getR hl (i := 11) (by omega)
    have h11 := (hx 11 (by omega)).trans e11
    simp only [Value.cells, cellsIw, Nat.mul_one, List.drop_zero, List.drop_succ_cons, List.take_succ_cons, List.take_zero] at h0 h1 h2 h3 h4 h5 h6 h7 h8 h9 h10 h11
    obtain ⟨k0, q0, _, _⟩ := DataW.trod_int Try.underlying3 h0
    obtain ⟨k1, q1, _, _⟩ := DataW.trod_int Try.underlying3 h1
    obtain ⟨k2, q2, _, _⟩ := DataW.trod_int Try.underlying3 h2
    obtain ⟨k3, q3, _, _⟩ := DataW.trod_int Try.underlying3 h3
    obtain ⟨k4, q4, _, _⟩ := DataW.trod_int Try.underlying3 h4
    obtain ⟨k5, q5, _, _⟩ := DataW.trod_int Try.underlying3 h5
    obtain ⟨k6, q6, _, _⟩ := DataW.trod_int Try.underlying3 h6
    obtain ⟨k7, q7, _, _⟩ := DataW.trod_int Try.underlying3 h7
    obtain ⟨k8, q8, _, _⟩ := DataW.trod_int Try.underlying3 h8
    obtain ⟨k9, q9, _, _⟩ := DataW.trod_int Try.underlying3 h9
    obtain ⟨k10, q10, _, _⟩ := DataW.trod_int Try.underlying3 h10
    obtain ⟨k11, q11, _, _⟩ := DataW.trod_int Try.underlying3 h11
    simp at q0 q1 q2 q3 q4 q5 q6 q7 q8 q9 q10 q11
    subst q0 q1 q2 q3 q4 q5 q6 q7 q8 q9 q10 q11
    exact ⟨k0, k1, k2, k3, k4, k5, k6, k7, k8, k9, k10, k11, rfl⟩
set_option maxRecDepth 100000 in
/-- An argument that is an id, opened. -/
theorem open_id {W : World} {r : Reach} {b0 : Nat} {v : Value} {d : DataW H} {p : List MemPlace} (hv : Value.okWide Try.prog W r b0 32 v) (h : DataW.Trod enc Try.prog W 0 (fun _ => true) true 32 v d p) :
    ∃ (dev seq : Int), v = .agg #[.int .i64 dev, .int .i64 seq] ∧ (-9223372036854775808 ≤ seq ∧ seq ≤ 9223372036854775807) := by
  obtain ⟨cs, rfl, hsz⟩ := okWide_struct Try.underlying32 hv
  obtain ⟨l⟩ := cs
  match l, hsz.trans cellsDw with
  | [c0, c1], _ =>
    obtain ⟨fuel, hf⟩ := h
    obtain ⟨y0, y1, n, _, _, h0, h1⟩ := trod_struct2 Try.underlying32 hf
    simp only [Value.cells, cellsIw, List.drop_zero, List.drop_succ_cons, List.take_succ_cons, List.take_zero] at h0 h1
    obtain ⟨k0, q0, _, _⟩ := DataW.trod_int Try.underlying3 h0
    obtain ⟨k1, q1, _, w1⟩ := DataW.trod_int Try.underlying3 h1
    simp at q0 q1
    subst q0 q1
    exact ⟨k0, k1, rfl, wf_i64 w1⟩
set_option maxRecDepth 100000 in
/-- An argument that is a slice of writes, opened. -/
theorem open_wrlc {t : TypeId} (ht : Try.prog.underlying t = some (.slice 39)) {W : World} {r : Reach} {b0 : Nat} {v : Value} {d : DataW H} {p : List MemPlace} (hv : Value.okWide Try.prog W r b0 t v) (h : DataW.Trod enc Try.prog W 0 (fun _ => true) true t v d p) :
    ∃ (A : Option Addr) (n c : Nat) (l : List Wr), v = .slice A n c ∧ l.length = n ∧ RdW W.heap.size W A l ∧ n ≤ maxLen ∧ n ≤ c ∧ ∀ x, x ∈ l → x.fits := by
  obtain ⟨A, n, c, rfl⟩ := okWide_slice ht hv
  obtain ⟨fuel, hf⟩ := h
  rcases open_slice ht hf with ⟨hcs, _⟩ | ⟨a, len, cap, m, f, D, Pl, hcs, _, hl, hm, hmm, _, hi⟩
  · simp [Value.cells] at hcs
    obtain ⟨rfl, rfl, rfl⟩ := hcs
    exact ⟨none, 0, 0, [], rfl, rfl, RdW.nil _ _ _, Nat.zero_le _, Nat.le_refl _, fun x hx => by simp at hx⟩
  · simp [Value.cells] at hcs
    obtain ⟨rfl, rfl, rfl⟩ := hcs
    have hle : n ≤ m := by rw [hmm]; simp; omega
    have hx : ∀ i, ∃ x : Wr, i < n → x.fits ∧ ∀ j v, x.cells[j]? = some v → W.cell? (a.add (i * 10 + j)) = some v := by
      intro i
      by_cases hin : i < n
      · obtain ⟨cs', hc, ht'⟩ := hi i (by omega)
        rw [cellsWw] at hc
        obtain ⟨_, hlen, hcell⟩ := World.cells?_some hc
        obtain ⟨x, rfl, hfx⟩ := open_wrW hlen ht'
        refine ⟨x, fun _ => ⟨hfx, fun j v hj => ?_⟩⟩
        have hj10 : j < 10 := by
          have := (Array.getElem?_eq_some_iff.1 hj).1
          simpa using this
        rw [← add_add', hcell j hj10, Array.getElem?_toList]
        exact hj
      · exact ⟨⟨0, 0, 0, ⟨#[]⟩, 0, 0, ⟨#[]⟩, 0, 0, ⟨#[]⟩⟩, fun h => absurd h hin⟩
    have hF : ∃ f : Nat → Wr, ∀ i, i < n → (f i).fits ∧ ∀ j v, (f i).cells[j]? = some v → W.cell? (a.add (i * 10 + j)) = some v := ⟨fun i => Classical.choose (hx i), fun i => Classical.choose_spec (hx i)⟩
    obtain ⟨g, hg⟩ := hF
    refine ⟨some a, n, c, (List.range n).map g, rfl, by simp, fun k x hx => ?_, by omega, hl, fun x hx => ?_⟩
    · have hk : k < n := by
        have := (List.getElem?_eq_some_iff.1 hx).1
        simpa using this
      have e : x = g k := by
        rw [List.getElem?_map, List.getElem?_range hk] at hx
        injection hx with hx
        exact hx.symm
      subst e
      have hc := (hg k hk).2 0 _ rfl
      have hb := World.block_lt_of_cell? W _ hc
      rw [add_block] at hb
      exact ⟨a, rfl, hb, (hg k hk).2⟩
    · obtain ⟨k, hk, rfl⟩ := List.mem_map.1 hx
      exact (hg k (List.mem_range.1 hk)).1
end
end Go.Proofs.Ytkfhkfddhijkcaa

namespace Go.Proofs.Ytkfhkfddhijkcaa
open Go.RowKit

/-- string(..) of bytes that are read. -/
theorem conv_rd {B : Nat} (W : World) (A : Option Addr) (n c : Nat) (l : List UInt8) (hn : l.length = n) (h : RdB B W A l) : (convert 105 9 (.slice A n c)).run Try.prog W = .ok (.string ⟨l.toArray⟩) W := by
  subst hn
  cases l with
  | nil =>
    cases A with
    | none => exact run_convert_bytes_nil W 105 5 Try.underlying105 Try.underlying5 0 c 9 Try.underlying9
    | some ad => exact run_convert_bytes_back W 105 9 5 ad c [] Try.underlying105 Try.underlying5 Try.underlying9 (fun j hj => absurd hj (by simp))
  | cons x t =>
    obtain ⟨ad, rfl, _, _⟩ := h 0 x rfl
    refine run_convert_bytes_back W 105 9 5 ad c (x :: t) Try.underlying105 Try.underlying5 Try.underlying9 ?_
    intro j hj
    obtain ⟨a2, e, _, hc⟩ := h j _ (List.getElem?_eq_getElem hj)
    injection e with e
    subst e
    exact hc
end Go.Proofs.Ytkfhkfddhijkcaa

namespace Go.Proofs.Ytkfhkfddhijkcaa
open Go.RowKit

/-- What a reader has left; none: it has an error. -/
abbrev Rest := Option (List UInt8)
def numOf (st : Rest) (most : Nat) : Nat × Rest := match st with
  | none => (0, none)
  | some b => if (takeNum b most).2 = 0 then (0, none) else ((takeNum b most).1, some (b.drop (takeNum b most).2))
def intOfR (st : Rest) : Int × Rest := match st with
  | none => (0, none)
  | some b => if (takeIntB b).2 = 0 then (0, none) else ((takeIntB b).1, some (b.drop (takeIntB b).2))
def textOf (st : Rest) (most : Nat) : List UInt8 × Rest := match st with
  | none => ([], none)
  | some b => if (takeTextB b most).2 = 0 then ([], none) else ((takeTextB b most).1, some (b.drop (takeTextB b most).2))
def flagOf (st : Rest) : Bool × Rest := match st with
  | none => (false, none)
  | some b => if (takeFlagB b).2 = 0 then (false, none) else ((takeFlagB b).1, some (b.drop (takeFlagB b).2))
def endOf (st : Rest) : Int := match st with
  | some [] => 0
  | _ => 2
/-- Bytes that a call answered. -/
def PutR (w : World) (L : List UInt8) (e : Ending) (w' : World) : Prop :=
  (∃ (A : Option Addr) (n c : Nat), e = .returned (.slice A n c) ∧ L.length = n ∧ RdB w'.heap.size w' A L ∧ n ≤ c) ∧ Below w.heap.size w w'
/-- A write that is all nought. -/
abbrev wr0 : Value := .agg #[.int .i64 0, .int .i64 0, .int .i64 0, .string ⟨#[]⟩, .int .i64 0, .int .i64 0, .string ⟨#[]⟩, .int .i64 0, .int .i64 0, .string ⟨#[]⟩]
theorem below_g {w0 w w' : World} {g : Nat} (h : Below w0.heap.size w0 w) (hg : w.grownBy w' (some g)) (hle : w0.heap.size ≤ g) : Below w0.heap.size w0 w' :=
  h.grown hg h.size fun k hk => by
    injection hk with hk
    omega
end Go.Proofs.Ytkfhkfddhijkcaa
