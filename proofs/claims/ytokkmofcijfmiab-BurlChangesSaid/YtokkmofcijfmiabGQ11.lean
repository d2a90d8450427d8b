/-
  WHAT IS PROVED: package roll's calls that put reaches, cells, lines and lasts behind other bytes (PutReach, PutCells, PutLines, PutLasts): the document's bytes, behind what was handed in, which stays. Conditions: those typed in each theorem. · words for an array of twelve numbers; package roll's PutLasts: the document's bytes, behind what was handed in, which stays. Conditions: those typed in each theorem. · arguments that are a slice of cells, a slice of lines, twelve numbers: opened (own work, over any program that bears the types named).
-/
import Derived.Test.YtokkmofcijfmiabRPut
import Derived.Test.YtokkmofcijfmiabGQ3
import Derived.Test.YtokkmofcijfmiabGQ1
import Derived.Test.YtokkmofcijfmiabRollMath
import Derived.Test.YtokkmofcijfmiabRowX
import Derived.Lib.SmallJoins
import Derived.Deep.Slices
namespace Go.Proofs.Ytokkmofcijfmiab
open Go.RowKit

section
variable {W w0 w' w1 : World} {b : Nat} {v0 v1 v2 v3 : Value} {t : TypeId}
theorem sb4_0 (h : Blk W b #[v0, v1, v2, v3] t) (hB : Below b w0 W) : W.drew.cell? ⟨b, 0, none⟩ = some v0 ∧ W.drew.cell? ⟨b, 1, none⟩ = some v1 ∧ W.drew.cell? ⟨b, 2, none⟩ = some v2 ∧ W.drew.cell? ⟨b, 3, none⟩ = some v3 ∧ Blk W.drew b #[v0, v1, v2, v3] t ∧ Below b w0 W.drew :=
  ⟨h.cell 0, h.cell 1, h.cell 2, h.cell 3, h, hB.drew⟩
theorem sb4_1 (h : w'.cell? ⟨b, 0, none⟩ = some v0 ∧ w'.cell? ⟨b, 1, none⟩ = some v1 ∧ w'.cell? ⟨b, 2, none⟩ = some v2 ∧ w'.cell? ⟨b, 3, none⟩ = some v3 ∧ Blk w' b #[v0, v1, v2, v3] t ∧ Below b w0 w') (hb : Below w'.heap.size w' w1) : w1.cell? ⟨b, 0, none⟩ = some v0 ∧ w1.cell? ⟨b, 1, none⟩ = some v1 ∧ w1.cell? ⟨b, 2, none⟩ = some v2 ∧ w1.cell? ⟨b, 3, none⟩ = some v3 ∧ Blk w1 b #[v0, v1, v2, v3] t ∧ Below b w0 w1 := by
  have k := Blk.keep h.2.2.2.2.1 hb
  exact ⟨k.cell 0, k.cell 1, k.cell 2, k.cell 3, k, h.2.2.2.2.2.trans (hb.mono (Nat.le_of_lt (Blk.lt h.2.2.2.2.1)))⟩
theorem sb4_b (h : w'.cell? ⟨b, 0, none⟩ = some v0 ∧ w'.cell? ⟨b, 1, none⟩ = some v1 ∧ w'.cell? ⟨b, 2, none⟩ = some v2 ∧ w'.cell? ⟨b, 3, none⟩ = some v3 ∧ Blk w' b #[v0, v1, v2, v3] t ∧ Below b w0 w') : Below b w0 w' := h.2.2.2.2.2
end

section
variable {W w0 w' w1 : World} {b : Nat} {v0 v1 v2 v3 v4 v5 v6 v7 v8 v9 v10 : Value} {t : TypeId}
theorem sb11_0 (h : Blk W b #[v0, v1, v2, v3, v4, v5, v6, v7, v8, v9, v10] t) (hB : Below b w0 W) : W.drew.cell? ⟨b, 0, none⟩ = some v0 ∧ W.drew.cell? ⟨b, 1, none⟩ = some v1 ∧ W.drew.cell? ⟨b, 2, none⟩ = some v2 ∧ W.drew.cell? ⟨b, 3, none⟩ = some v3 ∧ W.drew.cell? ⟨b, 4, none⟩ = some v4 ∧ W.drew.cell? ⟨b, 5, none⟩ = some v5 ∧ W.drew.cell? ⟨b, 6, none⟩ = some v6 ∧ W.drew.cell? ⟨b, 7, none⟩ = some v7 ∧ W.drew.cell? ⟨b, 8, none⟩ = some v8 ∧ W.drew.cell? ⟨b, 9, none⟩ = some v9 ∧ W.drew.cell? ⟨b, 10, none⟩ = some v10 ∧ Blk W.drew b #[v0, v1, v2, v3, v4, v5, v6, v7, v8, v9, v10] t ∧ Below b w0 W.drew :=
  ⟨h.cell 0, h.cell 1, h.cell 2, h.cell 3, h.cell 4, h.cell 5, h.cell 6, h.cell 7, h.cell 8, h.cell 9, h.cell 10, h, hB.drew⟩
theorem sb11_1 (h : w'.cell? ⟨b, 0, none⟩ = some v0 ∧ w'.cell? ⟨b, 1, none⟩ = some v1 ∧ w'.cell? ⟨b, 2, none⟩ = some v2 ∧ w'.cell? ⟨b, 3, none⟩ = some v3 ∧ w'.cell? ⟨b, 4, none⟩ = some v4 ∧ w'.cell? ⟨b, 5, none⟩ = some v5 ∧ w'.cell? ⟨b, 6, none⟩ = some v6 ∧ w'.cell? ⟨b, 7, none⟩ = some v7 ∧ w'.cell? ⟨b, 8, none⟩ = some v8 ∧ w'.cell? ⟨b, 9, none⟩ = some v9 ∧ w'.cell? ⟨b, 10, none⟩ = some v10 ∧ Blk w' b #[v0, v1, v2, v3, v4, v5, v6, v7, v8, v9, v10] t ∧ Below b w0 w') (hb : Below w'.heap.size w' w1) : w1.cell? ⟨b, 0, none⟩ = some v0 ∧ w1.cell? ⟨b, 1, none⟩ = some v1 ∧ w1.cell? ⟨b, 2, none⟩ = some v2 ∧ w1.cell? ⟨b, 3, none⟩ = some v3 ∧ w1.cell? ⟨b, 4, none⟩ = some v4 ∧ w1.cell? ⟨b, 5, none⟩ = some v5 ∧ w1.cell? ⟨b, 6, none⟩ = some v6 ∧ w1.cell? ⟨b, 7, none⟩ = some v7 ∧ w1.cell? ⟨b, 8, none⟩ = some v8 ∧ w1.cell? ⟨b, 9, none⟩ = some v9 ∧ w1.cell? ⟨b, 10, none⟩ = some v10 ∧ Blk w1 b #[v0, v1, v2, v3, v4, v5, v6, v7, v8, v9, v10] t ∧ Below b w0 w1 := by
  have k := Blk.keep h.2.2.2.2.2.2.2.2.2.2.2.1 hb
  exact ⟨k.cell 0, k.cell 1, k.cell 2, k.cell 3, k.cell 4, k.cell 5, k.cell 6, k.cell 7, k.cell 8, k.cell 9, k.cell 10, k, h.2.2.2.2.2.2.2.2.2.2.2.2.trans (hb.mono (Nat.le_of_lt (Blk.lt h.2.2.2.2.2.2.2.2.2.2.2.1)))⟩
theorem sb11_b (h : w'.cell? ⟨b, 0, none⟩ = some v0 ∧ w'.cell? ⟨b, 1, none⟩ = some v1 ∧ w'.cell? ⟨b, 2, none⟩ = some v2 ∧ w'.cell? ⟨b, 3, none⟩ = some v3 ∧ w'.cell? ⟨b, 4, none⟩ = some v4 ∧ w'.cell? ⟨b, 5, none⟩ = some v5 ∧ w'.cell? ⟨b, 6, none⟩ = some v6 ∧ w'.cell? ⟨b, 7, none⟩ = some v7 ∧ w'.cell? ⟨b, 8, none⟩ = some v8 ∧ w'.cell? ⟨b, 9, none⟩ = some v9 ∧ w'.cell? ⟨b, 10, none⟩ = some v10 ∧ Blk w' b #[v0, v1, v2, v3, v4, v5, v6, v7, v8, v9, v10] t ∧ Below b w0 w') : Below b w0 w' := h.2.2.2.2.2.2.2.2.2.2.2.2
end

theorem clB_small {c : Cl} (h : c.good = true) (hf : c.fits) : (clB c).length ≤ 3000000 := by
  obtain ⟨h1, h2, h3, h4, h5⟩ := cl_in h
  have a := textB_small (s := c.ky) (by omega)
  have b := valB_small (s := c.s) (goodB_in h5).1 hf.2.2.1 hf.2.2.2 (by omega)
  unfold clB
  rw [List.length_append]
  omega
theorem lnB_small {x : Ln} (h : x.good = true) (hf : x.fits) : (lnB x).length ≤ 5000000 := by
  obtain ⟨h1, h2⟩ := ln_in h
  obtain ⟨g1, g2, g3, g4, g5, g6⟩ := good_in h2
  obtain ⟨_, _, _, f1, f2⟩ := hf
  have a0 := numB_small (n := x.pl.toNat) (by omega)
  have a1 := numB_small (n := x.w.dev.toNat) (by omega)
  have a2 := numB_small (n := x.w.seq.toNat) (by omega)
  have a3 := numB_small (n := x.w.K.toNat) (by omega)
  have a4 := textB_small (s := x.w.ky) (by omega)
  have a5 := valB_small (s := x.w.sa) g5.1 f1.1 f1.2 (by omega)
  have a6 := valB_small (s := x.w.sb) g6.1 f2.1 f2.2 (by omega)
  unfold lnB wB wrB
  simp only [List.length_append]
  omega

end Go.Proofs.Ytokkmofcijfmiab

namespace Go.Proofs.Ytokkmofcijfmiab
open Go.RowKit

/-- A block of one-cell things, as a slice over it reads. -/
theorem blk_rdx1 {W : World} {b : Nat} {cs : Array Value} {t : TypeId} (h : Blk W b cs t) : RdX 1 (b + 1) W (some ⟨b, 0, none⟩) (cs.toList.map fun v => #[v]) := by
  intro k c hk
  rw [List.getElem?_map, Array.getElem?_toList] at hk
  cases hv : cs[k]? with
  | none => rw [hv] at hk; cases hk
  | some v =>
    rw [hv] at hk
    injection hk with hk
    subst hk
    refine ⟨_, rfl, Nat.lt_succ_self _, fun j u hj => ?_⟩
    have hj0 : j = 0 := by
      have := (Array.getElem?_eq_some_iff.1 hj).1
      simp at this
      omega
    subst hj0
    injection hj with hj
    subst hj
    rw [Nat.mul_one, Nat.add_zero, zeroX_at, h.cell k]
    exact hv
theorem blk_la {W : World} {b : Nat} {a0 a1 a2 a3 a4 a5 a6 a7 a8 a9 a10 a11 : Int} {t : TypeId} (h : Blk W b (laI a0 a1 a2 a3 a4 a5 a6 a7 a8 a9 a10 a11) t) : RdX 1 (b + 1) W (some ⟨b, 0, none⟩) ((laL a0 a1 a2 a3 a4 a5 a6 a7 a8 a9 a10 a11).map intC) := blk_rdx1 h
theorem blkB_0 {W w0 : World} {b : Nat} {cs : Array Value} {t : TypeId} (h : Blk W b cs t) (hB : Below b w0 W) : Blk W.drew b cs t ∧ Below b w0 W.drew := ⟨h, hB.drew⟩
theorem blkB_1 {W w0 w1 : World} {b : Nat} {cs : Array Value} {t : TypeId} (h : Blk W b cs t ∧ Below b w0 W) (hb : Below (b + 1) W w1) : Blk w1 b cs t ∧ Below b w0 w1 :=
  ⟨(hb.block b (Nat.lt_succ_self _)).trans h.1, h.2.trans (hb.mono (Nat.le_succ _))⟩

end Go.Proofs.Ytokkmofcijfmiab

namespace Go.Proofs.Ytokkmofcijfmiab
open Go.RowKit Go.WideShapes Go.ChangeShapes

section
open Go.Joins Go.Deep
variable {H : Type} {enc : TypeId × Value → H}
theorem cellsCr : Try.prog.cellsOf 54 = 4 := by kernel_rfl
set_option maxRecDepth 100000 in
/-- An argument that is a slice of elements of z cells each, opened. -/
theorem open_rowX {X : Type} (f : X → Array Value) (P : X → Prop) (x0 : X) {z : Nat} (hz : 0 < z) (hs : ∀ x, (f x).size = z) {t te : TypeId} (ht : Try.prog.underlying t = some (.slice te)) (hce : Try.prog.cellsOf te = z) {W : World}
    (hE : ∀ {base : Nat} {spare : Nat → Bool} {held : Bool} {fuel : Nat} {cs : List Value} {y : DataW H × List MemPlace}, cs.length = z → DataW.trod enc Try.prog W base spare held fuel te cs = some y → ∃ x : X, cs = (f x).toList ∧ P x)
    {r : Reach} {b0 : Nat} {v : Value} {d : DataW H} {p : List MemPlace} (hv : Value.okWide Try.prog W r b0 t v) (h : DataW.Trod enc Try.prog W 0 (fun _ => true) true t v d p) :
    ∃ (A : Option Addr) (n c : Nat) (l : List X), v = .slice A n c ∧ l.length = n ∧ RdX z W.heap.size W A (l.map f) ∧ n ≤ maxLen ∧ ∀ x, x ∈ l → P x := by
  obtain ⟨A, n, c, rfl⟩ := okWide_slice ht hv
  obtain ⟨fuel, hf⟩ := h
  rcases open_slice ht hf with ⟨hcs, _⟩ | ⟨a, len, cap, m, fu, D, Pl, hcs, _, hl, hm, hmm, _, hi⟩
  · simp [Value.cells] at hcs
    obtain ⟨rfl, rfl, rfl⟩ := hcs
    exact ⟨none, 0, 0, [], rfl, rfl, RdX.nil _ _ _ _, Nat.zero_le _, fun x hx => by simp at hx⟩
  · simp [Value.cells] at hcs
    obtain ⟨rfl, rfl, rfl⟩ := hcs
    have hle : n ≤ m := by rw [hmm]; simp; omega
    have hx : ∀ i, ∃ x : X, i < n → P x ∧ ∀ j v, (f x)[j]? = some v → W.cell? (a.add (i * z + j)) = some v := by
      intro i
      by_cases hin : i < n
      · obtain ⟨cs', hc, ht'⟩ := hi i (by omega)
        rw [hce] at hc
        obtain ⟨_, hlen, hcell⟩ := World.cells?_some hc
        obtain ⟨x, rfl, hfx⟩ := hE hlen ht'
        refine ⟨x, fun _ => ⟨hfx, fun j v hj => ?_⟩⟩
        have hj10 : j < z := by
          have := (Array.getElem?_eq_some_iff.1 hj).1
          rw [hs] at this
          exact this
        rw [← add_add', hcell j hj10, Array.getElem?_toList]
        exact hj
      · exact ⟨x0, fun h => absurd h hin⟩
    have hF : ∃ g : Nat → X, ∀ i, i < n → P (g i) ∧ ∀ j v, (f (g i))[j]? = some v → W.cell? (a.add (i * z + j)) = some v := ⟨fun i => Classical.choose (hx i), fun i => Classical.choose_spec (hx i)⟩
    obtain ⟨g, hg⟩ := hF
    refine ⟨some a, n, c, (List.range n).map g, rfl, by simp, fun k x hx => ?_, by omega, fun x hx => ?_⟩
    · have hk : k < n := by
        have := (List.getElem?_eq_some_iff.1 hx).1
        simpa using this
      have e : x = f (g k) := by
        rw [List.getElem?_map, List.getElem?_map, List.getElem?_range hk] at hx
        injection hx with hx
        exact hx.symm
      subst e
      have h0 : 0 < (f (g k)).size := by rw [hs]; exact hz
      have hc := (hg k hk).2 0 _ (Array.getElem?_eq_getElem h0)
      have hb := World.block_lt_of_cell? W _ hc
      rw [add_block] at hb
      exact ⟨a, rfl, hb, (hg k hk).2⟩
    · obtain ⟨k, hk, rfl⟩ := List.mem_map.1 hx
      exact (hg k (List.mem_range.1 hk)).1
set_option maxRecDepth 100000 in
/-- Four cells that read as a cell. -/
theorem open_clR {W : World} {base : Nat} {spare : Nat → Bool} {held : Bool} {fuel : Nat} {cs : List Value} {y : DataW H × List MemPlace} (hl : cs.length = 4) (h : DataW.trod enc Try.prog W base spare held fuel 54 cs = some y) : ∃ x : Cl, cs = x.cells.toList ∧ x.fits := by
  match cs, hl with
  | [c0, c1, c2, c3], _ =>
    obtain ⟨y0, y1, n, _, _, h0, h1⟩ := trod_struct2 Try.underlying54 h
    simp only [cellsSw, cellsVw, List.drop_zero, List.drop_succ_cons, List.take_succ_cons, List.take_zero] at h0 h1
    obtain ⟨ky, e0, rfl, wk⟩ := DataW.trod_string Try.underlying9 h0
    simp at e0
    subst e0
    obtain ⟨k, n, s, rfl, rfl, rfl, wn, ws⟩ := open_valW h1
    exact ⟨⟨ky, k, n, s⟩, rfl, wk, ws, (wf_i64 wn).1, (wf_i64 wn).2⟩
set_option maxRecDepth 100000 in
theorem open_cells {t : TypeId} (ht : Try.prog.underlying t = some (.slice 54)) {W : World} {r : Reach} {b0 : Nat} {v : Value} {d : DataW H} {p : List MemPlace} (hv : Value.okWide Try.prog W r b0 t v) (h : DataW.Trod enc Try.prog W 0 (fun _ => true) true t v d p) :
    ∃ (A : Option Addr) (n c : Nat) (l : List Cl), v = .slice A n c ∧ l.length = n ∧ RdX 4 W.heap.size W A (l.map Cl.cells) ∧ n ≤ maxLen ∧ ∀ x, x ∈ l → x.fits :=
  open_rowX Cl.cells Cl.fits ⟨⟨#[]⟩, 0, 0, ⟨#[]⟩⟩ (by omega) (fun _ => rfl) ht cellsCr (fun hl h => open_clR hl h) hv h
end
end Go.Proofs.Ytokkmofcijfmiab
