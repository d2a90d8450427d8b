/-
  WHAT IS PROVED: package roll's calls that put reaches, cells, lines and lasts behind other bytes (PutReach, PutCells, PutLines, PutLasts): the document's bytes, behind what was handed in, which stays. Conditions: those typed in each theorem. · words for an array of twelve numbers; package roll's PutLasts: the document's bytes, behind what was handed in, which stays. Conditions: those typed in each theorem. · arguments that are a slice of cells, a slice of lines, twelve numbers: opened (own work, over any program that bears the types named). · plain facts on the sum CRC-32C: it is told by exclusive or on numbers below 2^32; bytes of one length that differ in one byte have different sums. No program. No condition. · plain words for digests. No condition. · plain words for skies: the next number, one below another one, an index by weights. No condition.
-/
import Derived.Test.YtokkmofcijfmiabRPut
import Derived.Test.YtokkmofcijfmiabGQ3
import Derived.Test.YtokkmofcijfmiabGQ1
import Derived.Test.YtokkmofcijfmiabGQ7
import Derived.Test.YtokkmofcijfmiabGQ8
import Derived.Lib.SmallJoins
import Derived.Deep.Slices
import GoSem.Claim
namespace Go.Proofs.Ytokkmofcijfmiab
open Go.RowKit

section
variable {W w0 w' w1 : World} {b : Nat} {v0 v1 v2 v3 : Value} {t : TypeId}
theorem sb4_0 (h : Blk W b #[v0, v1, v2, v3] t) (hB : Below b w0 W) : W.drew.cell? ⟨b, 0, none⟩ = some v0 ∧ W.drew.cell? ⟨b, 1, none⟩ = some v1 ∧ W.drew.cell? ⟨b, 2, none⟩ = some v2 ∧ W.drew.cell? ⟨b, 3, none⟩ = some v3 ∧ Blk W.drew b #[v0, v1, v2, v3] t ∧ Below b w0 W.drew :=
  ⟨h.cell 0, h.cell 1, h.cell 2, h.cell 3, h, hB.drew⟩
theorem sb4_1 (h : w'.cell? ⟨b, 0, none⟩ = some v0 ∧ w'.cell? ⟨b, 1, none⟩ = some v1 ∧ w'.cell? ⟨b, 2, none⟩ = some v2 ∧ w'.cell? ⟨b, 3, none⟩ = some v3 ∧ Blk w' b #[v0, v1, v2, v3] t ∧ Below b w0 w') (hb : Below w'.heap.size w' w1) : w1.cell? ⟨b, 0, none⟩ = some v0 ∧ w1.cell? ⟨b, 1, none⟩ = some v1 ∧ w1.cell? ⟨b, 2, none⟩ = some v2 ∧ w1.cell? ⟨b, 3, none⟩ = some v3 ∧ Blk w1 b #[v0, v1, v2, v3] t ∧ Below b w0 w1 := by
  have k := Blk.keep h.2.2.2.2.1 hb
  exact ⟨k.cell 0, k.cell 1, k.cell 2, k.cell 3, k, h.2.2.2.2.2.trans (hb.mono (Nat.le_of_lt (Blk.lt h.2.2.2.2.1)))⟩
theorem sb4_b (h : w'.cell? ⟨b, 0, none⟩ = some v0 ∧ w'.cell? ⟨b, 1, none⟩ = some v1 ∧ w'.cell? ⟨b, 2, none⟩ = some v2 ∧ w'.cell? ⟨b, 3, none⟩ = some v3 ∧ Blk w' b #[v0, v1, v2, v3] t ∧ Below b w0 w') : Below b w0 w' := h.2.2.2.2.2
end

section
variable {W w0 w' w1 : World} {b : Nat} {v0 v1 v2 v3 v4 v5 v6 v7 v8 v9 v10 : Value} {t : TypeId}
theorem sb11_0 (h : Blk W b #[v0, v1, v2, v3, v4, v5, v6, v7, v8, v9, v10] t) (hB : Below b w0 W) : W.drew.cell? ⟨b, 0, none⟩ = some v0 ∧ W.drew.cell? ⟨b, 1, none⟩ = some v1 ∧ W.drew.cell? ⟨b, 2, none⟩ = some v2 ∧ W.drew.cell? ⟨b, 3, none⟩ = some v3 ∧ W.drew.cell? ⟨b, 4, none⟩ = some v4 ∧ W.drew.cell? ⟨b, 5, none⟩ = some v5 ∧ W.drew.cell? ⟨b, 6, none⟩ = some v6 ∧ W.drew.cell? ⟨b, 7, none⟩ = some v7 ∧ W.drew.cell? ⟨b, 8, none⟩ = some v8 ∧ W.drew.cell? ⟨b, 9, none⟩ = some v9 ∧ W.drew.cell? ⟨b, 10, none⟩ = some v10 ∧ Blk W.drew b #[v0, v1, v2, v3, v4, v5, v6, v7, v8, v9, v10] t ∧ Below b w0 W.drew :=
  ⟨h.cell 0, h.cell 1, h.cell 2, h.cell 3, h.cell 4, h.cell 5, h.cell 6, h.cell 7, h.cell 8, h.cell 9, h.cell 10, h, hB.drew⟩
theorem sb11_1 (h : w'.cell? ⟨b, 0, none⟩ = some v0 ∧ w'.cell? ⟨b, 1, none⟩ = some v1 ∧ w'.cell? ⟨b, 2, none⟩ = some v2 ∧ w'.cell? ⟨b, 3, none⟩ = some v3 ∧ w'.cell? ⟨b, 4, none⟩ = some v4 ∧ w'.cell? ⟨b, 5, none⟩ = some v5 ∧ w'.cell? ⟨b, 6, none⟩ = some v6 ∧ w'.cell? ⟨b, 7, none⟩ = some v7 ∧ w'.cell? ⟨b, 8, none⟩ = some v8 ∧ w'.cell? ⟨b, 9, none⟩ = some v9 ∧ w'.cell? ⟨b, 10, none⟩ = some v10 ∧ Blk w' b #[v0, v1, v2, v3, v4, v5, v6, v7, v8, v9, v10] t ∧ Below b w0 w') (hb : Below w'.heap.size w' w1) : w1.cell? ⟨b, 0, none⟩ = some v0 ∧ w1.cell? ⟨b, 1, none⟩ = some v1 ∧ w1.cell? ⟨b, 2, none⟩ = some v2 ∧ w1.cell? ⟨b, 3, none⟩ = some v3 ∧ w1.cell? ⟨b, 4, none⟩ = some v4 ∧ w1.cell? ⟨b, 5, none⟩ = some v5 ∧ w1.cell? ⟨b, 6, none⟩ = some v6 ∧ w1.cell? ⟨b, 7, none⟩ = some v7 ∧ w1.cell? ⟨b, 8, none⟩ = some v8 ∧ w1.cell? ⟨b, 9, none⟩ = some v9 ∧ w1.cell? ⟨b, 10, none⟩ = some v10 ∧ Blk w1 b #[v0, v1, v2, v3, v4, v5, v6, v7, v8, v9, v10] t ∧ Below b w0 w1 := by
  have k := Blk.keep h.2.2.2.2.2.2.2.2.2.2.2.1 hb
  exact ⟨k.cell 0, k.cell 1, k.cell 2, k.cell 3, k.cell 4, k.cell 5, k.cell 6, k.cell 7, k.cell 8, k.cell 9, k.cell 10, k, h.2.2.2.2.2.2.2.2.2.2.2.2.trans (hb.mono (Nat.le_of_lt (Blk.lt h.2.2.2.2.2.2.2.2.2.2.2.1)))⟩
theorem sb11_b (h : w'.cell? ⟨b, 0, none⟩ = some v0 ∧ w'.cell? ⟨b, 1, none⟩ = some v1 ∧ w'.cell? ⟨b, 2, none⟩ = some v2 ∧ w'.cell? ⟨b, 3, none⟩ = some v3 ∧ w'.cell? ⟨b, 4, none⟩ = some v4 ∧ w'.cell? ⟨b, 5, none⟩ = some v5 ∧ w'.cell? ⟨b, 6, none⟩ = some v6 ∧ w'.cell? ⟨b, 7, none⟩ = some v7 ∧ w'.cell? ⟨b, 8, none⟩ = some v8 ∧ w'.cell? ⟨b, 9, none⟩ = some v9 ∧ w'.cell? ⟨b, 10, none⟩ = some v10 ∧ Blk w' b #[v0, v1, v2, v3, v4, v5, v6, v7, v8, v9, v10] t ∧ Below b w0 w') : Below b w0 w' := h.2.2.2.2.2.2.2.2.2.2.2.2
end

theorem clB_small {c : Cl} (h : c.good = true) (hf : c.fits) : (clB c).length ≤ 3000000 := by
  obtain ⟨h1, h2, h3, h4, h5⟩ := cl_in h
  have a := textB_small (s := c.ky) (by omega)
  have b := valB_small (s := c.s) (goodB_in h5).1 hf.2.2.1 hf.2.2.2 (by omega)
  unfold clB
  rw [List.length_append]
  omega
theorem lnB_small {x : Ln} (h : x.good = true) (hf : x.fits) : (lnB x).length ≤ 5000000 := by
  obtain ⟨h1, h2⟩ := ln_in h
  obtain ⟨g1, g2, g3, g4, g5, g6⟩ := good_in h2
  obtain ⟨_, _, _, f1, f2⟩ := hf
  have a0 := numB_small (n := x.pl.toNat) (by omega)
  have a1 := numB_small (n := x.w.dev.toNat) (by omega)
  have a2 := numB_small (n := x.w.seq.toNat) (by omega)
  have a3 := numB_small (n := x.w.K.toNat) (by omega)
  have a4 := textB_small (s := x.w.ky) (by omega)
  have a5 := valB_small (s := x.w.sa) g5.1 f1.1 f1.2 (by omega)
  have a6 := valB_small (s := x.w.sb) g6.1 f2.1 f2.2 (by omega)
  unfold lnB wB wrB
  simp only [List.length_append]
  omega

end Go.Proofs.Ytokkmofcijfmiab

namespace Go.Proofs.Ytokkmofcijfmiab
open Go.RowKit

/-- A block of one-cell things, as a slice over it reads. -/
theorem blk_rdx1 {W : World} {b : Nat} {cs : Array Value} {t : TypeId} (h : Blk W b cs t) : RdX 1 (b + 1) W (some ⟨b, 0, none⟩) (cs.toList.map fun v => #[v]) := by
  intro k c hk
  rw [List.getElem?_map, Array.getElem?_toList] at hk
  cases hv : cs[k]? with
  | none => rw [hv] at hk; cases hk
  | some v =>
    rw [hv] at hk
    injection hk with hk
    subst hk
    refine ⟨_, rfl, Nat.lt_succ_self _, fun j u hj => ?_⟩
    have hj0 : j = 0 := by
      have := (Array.getElem?_eq_some_iff.1 hj).1
      simp at this
      omega
    subst hj0
    injection hj with hj
    subst hj
    rw [Nat.mul_one, Nat.add_zero, zeroX_at, h.cell k]
    exact hv
theorem blk_la {W : World} {b : Nat} {a0 a1 a2 a3 a4 a5 a6 a7 a8 a9 a10 a11 : Int} {t : TypeId} (h : Blk W b (laI a0 a1 a2 a3 a4 a5 a6 a7 a8 a9 a10 a11) t) : RdX 1 (b + 1) W (some ⟨b, 0, none⟩) ((laL a0 a1 a2 a3 a4 a5 a6 a7 a8 a9 a10 a11).map intC) := blk_rdx1 h
theorem blkB_0 {W w0 : World} {b : Nat} {cs : Array Value} {t : TypeId} (h : Blk W b cs t) (hB : Below b w0 W) : Blk W.drew b cs t ∧ Below b w0 W.drew := ⟨h, hB.drew⟩
theorem blkB_1 {W w0 w1 : World} {b : Nat} {cs : Array Value} {t : TypeId} (h : Blk W b cs t ∧ Below b w0 W) (hb : Below (b + 1) W w1) : Blk w1 b cs t ∧ Below b w0 w1 :=
  ⟨(hb.block b (Nat.lt_succ_self _)).trans h.1, h.2.trans (hb.mono (Nat.le_succ _))⟩

end Go.Proofs.Ytokkmofcijfmiab

namespace Go.Proofs.Ytokkmofcijfmiab
open Go.RowKit Go.WideShapes Go.ChangeShapes

section
open Go.Joins Go.Deep
variable {H : Type} {enc : TypeId × Value → H}
theorem cellsCr : Try.prog.cellsOf 54 = 4 := by kernel_rfl
set_option maxRecDepth 100000 in
/-- An argument that is a slice of elements of z cells each, opened. -/
theorem open_rowX {X : Type} (f : X → Array Value) (P : X → Prop) (x0 : X) {z : Nat} (hz : 0 < z) (hs : ∀ x, (f x).size = z) {t te : TypeId} (ht : Try.prog.underlying t = some (.slice te)) (hce : Try.prog.cellsOf te = z) {W : World}
    (hE : ∀ {base : Nat} {spare : Nat → Bool} {held : Bool} {fuel : Nat} {cs : List Value} {y : DataW H × List MemPlace}, cs.length = z → DataW.trod enc Try.prog W base spare held fuel te cs = some y → ∃ x : X, cs = (f x).toList ∧ P x)
    {r : Reach} {b0 : Nat} {v : Value} {d : DataW H} {p : List MemPlace} (hv : Value.okWide Try.prog W r b0 t v) (h : DataW.Trod enc Try.prog W 0 (fun _ => true) true t v d p) :
    ∃ (A : Option Addr) (n c : Nat) (l : List X), v = .slice A n c ∧ l.length = n ∧ RdX z W.heap.size W A (l.map f) ∧ n ≤ maxLen ∧ ∀ x, x ∈ l → P x := by
  obtain ⟨A, n, c, rfl⟩ := okWide_slice ht hv
  obtain ⟨fuel, hf⟩ := h
  rcases open_slice ht hf with ⟨hcs, _⟩ | ⟨a, len, cap, m, fu, D, Pl, hcs, _, hl, hm, hmm, _, hi⟩
  · simp [Value.cells] at hcs
    obtain ⟨rfl, rfl, rfl⟩ := hcs
    exact ⟨none, 0, 0, [], rfl, rfl, RdX.nil _ _ _ _, Nat.zero_le _, fun x hx => by simp at hx⟩
  · simp [Value.cells] at hcs
    obtain ⟨rfl, rfl, rfl⟩ := hcs
    have hle : n ≤ m := by rw [hmm]; simp; omega
    have hx : ∀ i, ∃ x : X, i < n → P x ∧ ∀ j v, (f x)[j]? = some v → W.cell? (a.add (i * z + j)) = some v := by
      intro i
      by_cases hin : i < n
      · obtain ⟨cs', hc, ht'⟩ := hi i (by omega)
        rw [hce] at hc
        obtain ⟨_, hlen, hcell⟩ := World.cells?_some hc
        obtain ⟨x, rfl, hfx⟩ := hE hlen ht'
        refine ⟨x, fun _ => ⟨hfx, fun j v hj => ?_⟩⟩
        have hj10 : j < z := by
          have := (Array.getElem?_eq_some_iff.1 hj).1
          rw [hs] at this
          exact this
        rw [← add_add', hcell j hj10, Array.getElem?_toList]
        exact hj
      · exact ⟨x0, fun h => absurd h hin⟩
    have hF : ∃ g : Nat → X, ∀ i, i < n → P (g i) ∧ ∀ j v, (f (g i))[j]? = some v → W.cell? (a.add (i * z + j)) = some v := ⟨fun i => Classical.choose (hx i), fun i => Classical.choose_spec (hx i)⟩
    obtain ⟨g, hg⟩ := hF
    refine ⟨some a, n, c, (List.range n).map g, rfl, by simp, fun k x hx => ?_, by omega, fun x hx => ?_⟩
    · have hk : k < n := by
        have := (List.getElem?_eq_some_iff.1 hx).1
        simpa using this
      have e : x = f (g k) := by
        rw [List.getElem?_map, List.getElem?_map, List.getElem?_range hk] at hx
        injection hx with hx
        exact hx.symm
      subst e
      have h0 : 0 < (f (g k)).size := by rw [hs]; exact hz
      have hc := (hg k hk).2 0 _ (Array.getElem?_eq_getElem h0)
      have hb := World.block_lt_of_cell? W _ hc
      rw [add_block] at hb
      exact ⟨a, rfl, hb, (hg k hk).2⟩
    · obtain ⟨k, hk, rfl⟩ := List.mem_map.1 hx
      exact (hg k (List.mem_range.1 hk)).1
set_option maxRecDepth 100000 in
/-- Four cells that read as a cell. -/
theorem open_clR {W : World} {base : Nat} {spare : Nat → Bool} {held : Bool} {fuel : Nat} {cs : List Value} {y : DataW H × List MemPlace} (hl : cs.length = 4) (h : DataW.trod enc Try.prog W base spare held fuel 54 cs = some y) : ∃ x : Cl, cs = x.cells.toList ∧ x.fits := by
  match cs, hl with
  | [c0, c1, c2, c3], _ =>
    obtain ⟨y0, y1, n, _, _, h0, h1⟩ := trod_struct2 Try.underlying54 h
    simp only [cellsSw, cellsVw, List.drop_zero, List.drop_succ_cons, List.take_succ_cons, List.take_zero] at h0 h1
    obtain ⟨ky, e0, rfl, wk⟩ := DataW.trod_string Try.underlying9 h0
    simp at e0
    subst e0
    obtain ⟨k, n, s, rfl, rfl, rfl, wn, ws⟩ := open_valW h1
    exact ⟨⟨ky, k, n, s⟩, rfl, wk, ws, (wf_i64 wn).1, (wf_i64 wn).2⟩
set_option maxRecDepth 100000 in
theorem open_cells {t : TypeId} (ht : Try.prog.underlying t = some (.slice 54)) {W : World} {r : Reach} {b0 : Nat} {v : Value} {d : DataW H} {p : List MemPlace} (hv : Value.okWide Try.prog W r b0 t v) (h : DataW.Trod enc Try.prog W 0 (fun _ => true) true t v d p) :
    ∃ (A : Option Addr) (n c : Nat) (l : List Cl), v = .slice A n c ∧ l.length = n ∧ RdX 4 W.heap.size W A (l.map Cl.cells) ∧ n ≤ maxLen ∧ ∀ x, x ∈ l → x.fits :=
  open_rowX Cl.cells Cl.fits ⟨⟨#[]⟩, 0, 0, ⟨#[]⟩⟩ (by omega) (fun _ => rfl) ht cellsCr (fun hl h => open_clR hl h) hv h
end
end Go.Proofs.Ytokkmofcijfmiab

namespace Go.Proofs.Ytokkmofcijfmiab

theorem xor_lt {a b : Nat} (h : a < 4294967296) (k : b < 4294967296) : a ^^^ b < 4294967296 := Nat.xor_lt_two_pow (n := 32) h k
/-- One bit. -/
def crcStep (c : Nat) : Nat := if c % 2 = 1 then (c / 2) ^^^ 2197175160 else c / 2
theorem crcStep_lt {c : Nat} (h : c < 4294967296) : crcStep c < 4294967296 := by
  unfold crcStep
  split
  · exact xor_lt (by omega) (by omega)
  · omega
theorem top_set {d : Nat} (h : d < 2147483648) : 2147483648 ≤ d ^^^ 2197175160 := by
  have h1 : (d ^^^ 2197175160).testBit 31 = true := by
    rw [Nat.testBit_xor, Nat.testBit_lt_two_pow (show d < 2 ^ 31 from h)]
    decide
  refine Nat.le_of_not_lt fun h2 => ?_
  have h3 := Nat.testBit_lt_two_pow (i := 31) (show d ^^^ 2197175160 < 2 ^ 31 from h2)
  rw [h1] at h3
  cases h3
theorem xor_cancel_right {a b c : Nat} (h : a ^^^ c = b ^^^ c) : a = b := by
  have := congrArg (· ^^^ c) h
  simpa [Nat.xor_assoc] using this
theorem xor_cancel_left {a b c : Nat} (h : c ^^^ a = c ^^^ b) : a = b := by
  rw [Nat.xor_comm c a, Nat.xor_comm c b] at h
  exact xor_cancel_right h
theorem crcStep_inj {c d : Nat} (hc : c < 4294967296) (hd : d < 4294967296) (h : crcStep c = crcStep d) : c = d := by
  unfold crcStep at h
  by_cases h1 : c % 2 = 1
  · rw [if_pos h1] at h
    by_cases h2 : d % 2 = 1
    · rw [if_pos h2] at h
      have := xor_cancel_right h
      omega
    · rw [if_neg h2] at h
      have := top_set (d := c / 2) (by omega)
      omega
  · rw [if_neg h1] at h
    by_cases h2 : d % 2 = 1
    · rw [if_pos h2] at h
      have := top_set (d := d / 2) (by omega)
      omega
    · rw [if_neg h2] at h
      omega
/-- So many bits. -/
def crcSteps : Nat → Nat → Nat
  | 0, c => c
  | k + 1, c => crcSteps k (crcStep c)
theorem crcSteps_succ : ∀ (k c : Nat), crcSteps (k + 1) c = crcStep (crcSteps k c)
  | 0, _ => rfl
  | k + 1, c => by
    show crcSteps (k + 1) (crcStep c) = _
    rw [crcSteps_succ k (crcStep c)]
    rfl
theorem crcSteps_lt : ∀ (k : Nat) {c : Nat}, c < 4294967296 → crcSteps k c < 4294967296
  | 0, _, h => h
  | k + 1, _, h => crcSteps_lt k (crcStep_lt h)
theorem crcSteps_inj : ∀ (k : Nat) {c d : Nat}, c < 4294967296 → d < 4294967296 → crcSteps k c = crcSteps k d → c = d
  | 0, _, _, _, _, h => h
  | k + 1, _, _, hc, hd, h => crcStep_inj hc hd (crcSteps_inj k (crcStep_lt hc) (crcStep_lt hd) h)
/-- One byte. -/
def crcByte (c : Nat) (b : UInt8) : Nat := crcSteps 8 (c ^^^ b.toNat)
theorem byte_lt (b : UInt8) : b.toNat < 4294967296 := Nat.lt_trans b.toNat_lt (by decide)
theorem crcByte_lt {c : Nat} (h : c < 4294967296) (b : UInt8) : crcByte c b < 4294967296 := crcSteps_lt 8 (xor_lt h (byte_lt b))
theorem crcByte_inj {c d : Nat} {b : UInt8} (hc : c < 4294967296) (hd : d < 4294967296) (h : crcByte c b = crcByte d b) : c = d :=
  xor_cancel_right (crcSteps_inj 8 (xor_lt hc (byte_lt b)) (xor_lt hd (byte_lt b)) h)
theorem crcByte_inj2 {c : Nat} {b b' : UInt8} (hc : c < 4294967296) (h : crcByte c b = crcByte c b') : b = b' :=
  UInt8.toNat_inj.1 (xor_cancel_left (crcSteps_inj 8 (xor_lt hc (byte_lt b)) (xor_lt hc (byte_lt b')) h))
/-- Where the bytes lead. -/
def crcTo (c : Nat) (l : List UInt8) : Nat := l.foldl crcByte c
theorem crcTo_snoc (c : Nat) (l : List UInt8) (b : UInt8) : crcTo c (l ++ [b]) = crcByte (crcTo c l) b := by simp [crcTo]
theorem crcTo_lt : ∀ (l : List UInt8) {c : Nat}, c < 4294967296 → crcTo c l < 4294967296
  | [], _, h => h
  | b :: t, _, h => crcTo_lt t (crcByte_lt h b)
theorem crcTo_inj : ∀ (l : List UInt8) {c d : Nat}, c < 4294967296 → d < 4294967296 → crcTo c l = crcTo d l → c = d
  | [], _, _, _, _, h => h
  | b :: t, _, _, hc, hd, h => crcByte_inj hc hd (crcTo_inj t (crcByte_lt hc b) (crcByte_lt hd b) h)
/-- The sum. -/
def crcL (l : List UInt8) : Nat := 4294967295 - crcTo 4294967295 l
theorem crcL_lt (l : List UInt8) : crcL l < 4294967296 := by unfold crcL; omega
/-- Two rows that differ in one byte have different sums. -/
theorem crcL_one {l r : List UInt8} {b b' : UInt8} (h : crcL (l ++ b :: r) = crcL (l ++ b' :: r)) : b = b' := by
  unfold crcL at h
  have h1 := crcTo_lt (l ++ b :: r) (c := 4294967295) (by decide)
  have h2 := crcTo_lt (l ++ b' :: r) (c := 4294967295) (by decide)
  have h3 : crcTo 4294967295 (l ++ b :: r) = crcTo 4294967295 (l ++ b' :: r) := by omega
  have e : ∀ x : UInt8, crcTo 4294967295 (l ++ x :: r) = crcTo (crcByte (crcTo 4294967295 l) x) r := fun x => by simp [crcTo]
  have hl := crcTo_lt l (c := 4294967295) (by decide)
  rw [e, e] at h3
  exact crcByte_inj2 hl (crcTo_inj r (crcByte_lt hl b) (crcByte_lt hl b') h3)
/-- Exclusive or, bit by bit from below. -/
theorem xor_bits (a b i : Nat) : (a ^^^ b) % 2 ^ (i + 1) = (a ^^^ b) % 2 ^ i + (if (a / 2 ^ i % 2 == 1) != (b / 2 ^ i % 2 == 1) then 2 ^ i else 0) := by
  have h1 : (a ^^^ b) % 2 ^ (i + 1) = (a ^^^ b) % 2 ^ i + 2 ^ i * ((a ^^^ b) / 2 ^ i % 2) := by
    rw [Nat.pow_succ, Nat.mod_mul]
  rw [h1]
  congr 1
  have ht : ((a ^^^ b).testBit i) = ((a.testBit i) != (b.testBit i)) := Nat.testBit_xor a b i
  rw [Nat.testBit_eq_decide_div_mod_eq, Nat.testBit_eq_decide_div_mod_eq, Nat.testBit_eq_decide_div_mod_eq] at ht
  have e : ∀ n : Nat, decide (n % 2 = 1) = (n % 2 == 1) := fun n => by rw [Bool.eq_iff_iff]; simp
  rw [e, e, e] at ht
  rw [← ht]
  have h2 : (a ^^^ b) / 2 ^ i % 2 = 0 ∨ (a ^^^ b) / 2 ^ i % 2 = 1 := by omega
  rcases h2 with h | h <;> simp [h]
end Go.Proofs.Ytokkmofcijfmiab

namespace Go.Proofs.Ytokkmofcijfmiab

theorem xor64L {a b : Nat} (h : a < 18446744073709551616) (k : b < 18446744073709551616) : a ^^^ b < 18446744073709551616 := Nat.xor_lt_two_pow (n := 64) h k
def digS (h : Nat) (x : UInt8) : Nat := (h ^^^ x.toNat) * 1099511628211 % 18446744073709551616
def digTo (h : Nat) (l : List UInt8) : Nat := l.foldl digS h
/-- The digest of bytes. -/
def digL (l : List UInt8) : Nat := digTo 14695981039346656037 l
theorem digS_lt (h : Nat) (x : UInt8) : digS h x < 18446744073709551616 := Nat.mod_lt _ (by decide)
theorem digTo_snoc (h : Nat) (l : List UInt8) (x : UInt8) : digTo h (l ++ [x]) = digS (digTo h l) x := by unfold digTo; rw [List.foldl_append, List.foldl_cons, List.foldl_nil]
theorem digTo_lt {h : Nat} (hh : h < 18446744073709551616) : ∀ l : List UInt8, digTo h l < 18446744073709551616 := by
  intro l
  induction l generalizing h with
  | nil => exact hh
  | cons x r ih => exact ih (digS_lt h x)
theorem digL_lt (l : List UInt8) : digL l < 18446744073709551616 := digTo_lt (by decide) l
theorem digTo_next {h : Nat} {l : List UInt8} {k : Nat} {x : UInt8} (hx : l[k]? = some x) : digTo h (l.take (k + 1)) = digS (digTo h (l.take k)) x := by
  rw [List.take_add_one, hx]
  exact digTo_snoc _ _ _
/-- The lowest eight bits, turned by a byte: the number, turned by it. -/
theorem low_xor (n c : Nat) (hc : c < 256) : n - n % 256 + ((n % 256) ^^^ c) = n ^^^ c := by
  have h1 : ((n % 256) ^^^ c) < 2 ^ 8 := Nat.xor_lt_two_pow (n := 8) (Nat.mod_lt _ (by decide)) hc
  have h2 : n - n % 256 + ((n % 256) ^^^ c) = 2 ^ 8 * (n / 256) + ((n % 256) ^^^ c) := by
    have := Nat.div_add_mod n 256
    omega
  rw [h2]
  apply Nat.eq_of_testBit_eq
  intro j
  rw [Nat.testBit_two_pow_mul_add _ h1, Nat.testBit_xor, Nat.testBit_xor, show (256 : Nat) = 2 ^ 8 by rfl]
  by_cases hj : j < 8
  · rw [if_pos hj, Nat.testBit_mod_two_pow, decide_eq_true hj, Bool.true_and]
  · rw [if_neg hj, Nat.testBit_div_two_pow]
    have e : c.testBit j = false := Nat.testBit_lt_two_pow (Nat.lt_of_lt_of_le hc (show 2 ^ 8 ≤ 2 ^ j from Nat.pow_le_pow_right (by decide) (by omega)))
    rw [e, Bool.xor_false, show j - 8 + 8 = j by omega]
theorem xor_mod256 (n c : Nat) (hc : c < 256) : (n ^^^ c) < 18446744073709551616 ↔ n < 18446744073709551616 := by
  constructor
  · intro h
    have h2 : n = (n ^^^ c) ^^^ c := by rw [Nat.xor_assoc, Nat.xor_self, Nat.xor_zero]
    rw [h2]
    exact xor64L h (by omega)
  · intro h
    exact xor64L h (by omega)
end Go.Proofs.Ytokkmofcijfmiab

namespace Go.Proofs.Ytokkmofcijfmiab

def w64 : Nat := 18446744073709551616
def nxS (s : Nat) : Nat := (s + 11400714819323198485) % 18446744073709551616
def mixW (p m z : Nat) : Nat := (z ^^^ (z / p)) * m % 18446744073709551616
def lastW (z : Nat) : Nat := z ^^^ (z / 2147483648)
/-- The next number, of a state. -/
def nxV (s : Nat) : Nat := lastW (mixW 134217728 10723151780598845931 (mixW 1073741824 13787848793156543929 (nxS s)))
theorem nxS_lt (s : Nat) : nxS s < 18446744073709551616 := Nat.mod_lt _ (by decide)
theorem mixW_lt (p m z : Nat) : mixW p m z < 18446744073709551616 := Nat.mod_lt _ (by decide)
theorem xor64_lt {a b : Nat} (h : a < 18446744073709551616) (k : b < 18446744073709551616) : a ^^^ b < 18446744073709551616 := Nat.xor_lt_two_pow (n := 64) h k
theorem lastW_lt {z : Nat} (h : z < 18446744073709551616) : lastW z < 18446744073709551616 := xor64_lt h (Nat.lt_of_le_of_lt (Nat.div_le_self _ _) h)
theorem nxV_lt (s : Nat) : nxV s < 18446744073709551616 := lastW_lt (mixW_lt _ _ _)
/-- The state behind one below n; it. -/
def blS (s : Nat) (n : Int) : Nat := if n < 1 then s else nxS s
def blV (s : Nat) (n : Int) : Int := if n < 1 then 0 else ((nxV s % n.toNat : Nat) : Int)
theorem blS_lt {s : Nat} (h : s < 18446744073709551616) (n : Int) : blS s n < 18446744073709551616 := by
  unfold blS
  split
  · exact h
  · exact nxS_lt s
theorem blV_0 (s : Nat) {n : Int} (h : n < 1) : blV s n = 0 := by unfold blV; rw [if_pos h]
theorem blV_in (s : Nat) {n : Int} (h : 1 ≤ n) : 0 ≤ blV s n ∧ blV s n < n := by
  unfold blV
  rw [if_neg (by omega)]
  have := Nat.mod_lt (nxV s) (show 0 < n.toNat by omega)
  omega
def sumW (l : List Int) : Int := l.foldl (· + ·) 0
/-- The first index behind whose weight k is below the sum. -/
def findW (k : Int) (i : Nat) : List Int → Int
  | [] => -1
  | w :: r => if k - w < 0 then (i : Int) else findW (k - w) (i + 1) r
def WOk (l : List Int) : Prop := ∀ x, x ∈ l → 0 ≤ x ∧ x ≤ 1000
theorem sumW_foldl (l : List Int) : ∀ a : Int, l.foldl (· + ·) a = a + sumW l := by
  induction l with
  | nil => intro a; simp [sumW]
  | cons x r ih => intro a; unfold sumW; simp only [List.foldl_cons]; rw [ih, ih (0 + x)]; omega
theorem sumW_cons (x : Int) (l : List Int) : sumW (x :: l) = x + sumW l := by
  show (x :: l).foldl (· + ·) 0 = _
  rw [List.foldl_cons, sumW_foldl]; omega
theorem sumW_snoc (x : Int) (l : List Int) : sumW (l ++ [x]) = sumW l + x := by
  show (l ++ [x]).foldl (· + ·) 0 = _
  rw [List.foldl_append]; rfl
theorem sumW_le {l : List Int} (h : WOk l) : 0 ≤ sumW l ∧ sumW l ≤ 1000 * l.length := by
  induction l with
  | nil => exact ⟨Int.le_refl _, by simp [sumW]⟩
  | cons x r ih =>
    have h1 := ih fun y hy => h y (List.mem_cons_of_mem _ hy)
    have h2 := h x (List.mem_cons_self ..)
    rw [sumW_cons, List.length_cons]
    omega
theorem WOk.take {l : List Int} (h : WOk l) (k : Nat) : WOk (l.take k) := fun x hx => h x (List.mem_of_mem_take hx)
theorem findW_in {l : List Int} (h : WOk l) : ∀ (k : Int) (i : Nat), 0 ≤ k → k < sumW l → ∃ (j : Nat) (x : Int), findW k i l = ((i + j : Nat) : Int) ∧ l[j]? = some x ∧ 0 < x := by
  induction l with
  | nil => intro k i h0 h1; simp [sumW] at h1; omega
  | cons x r ih =>
    intro k i h0 h1
    rw [sumW_cons] at h1
    unfold findW
    by_cases hk : k - x < 0
    · rw [if_pos hk]
      exact ⟨0, x, rfl, rfl, by omega⟩
    · rw [if_neg hk]
      obtain ⟨j, y, h2, h3, h4⟩ := ih (fun y hy => h y (List.mem_cons_of_mem _ hy)) (k - x) (i + 1) (by omega) (by omega)
      exact ⟨j + 1, y, by rw [h2]; omega, h3, h4⟩
/-- By's: the state behind it, the index. -/
def byS (s : Nat) (l : List Int) : Nat := if sumW l < 1 then s else blS s (sumW l)
def byV (s : Nat) (l : List Int) : Int := if sumW l < 1 then -1 else findW (blV s (sumW l)) 0 l
theorem byS_lt {s : Nat} (h : s < 18446744073709551616) (l : List Int) : byS s l < 18446744073709551616 := by
  unfold byS
  split
  · exact h
  · exact blS_lt h _
theorem byV_no (s : Nat) {l : List Int} (h : sumW l < 1) : byV s l = -1 := by unfold byV; rw [if_pos h]
theorem byV_in (s : Nat) {l : List Int} (h : WOk l) (hs : 1 ≤ sumW l) : ∃ (j : Nat) (x : Int), byV s l = ((j : Nat) : Int) ∧ l[j]? = some x ∧ 0 < x := by
  unfold byV
  rw [if_neg (by omega)]
  have h1 := blV_in s hs
  obtain ⟨j, x, h2, h3⟩ := findW_in h (blV s (sumW l)) 0 h1.1 h1.2
  exact ⟨j, x, by rw [h2]; omega, h3⟩
/-- The document's search tells the same: the first behind which the sum is above k. -/
theorem findW_drop (l : List Int) (k : Int) : ∀ (r : List Int) (i : Nat) (a : Int), findW (k - a) i r = findW (k - a) i r := fun _ _ _ => rfl
end Go.Proofs.Ytokkmofcijfmiab
