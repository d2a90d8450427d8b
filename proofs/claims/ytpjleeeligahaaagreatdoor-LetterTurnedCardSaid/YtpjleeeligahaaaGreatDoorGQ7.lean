/-
  WHAT IS PROVED: arguments that are a slice of cells, a slice of lines, twelve numbers: opened (own work, over any program that bears the types named). · words for slices of slices of bytes (own work): such a slice reads as a list of lists of bytes, nil let in. Over any program. · an argument that is a byte, or a slice of slices of bytes, opened (own work, over any program that bears the types named). · nothing; plain words for a letter: what it is of, when it is good (chapter 8's words). No program is spoken of. · an argument that is a letter, opened (own work, over any program that bears the types named). · plain words for what the code asks of a letter; they come to the chapter's goodLt. No program is spoken of. · slices.ContainsFunc (and IndexFunc) of rows of structs tells whether a predicate holds of one of them, for every function value that answers so and leaves what lay there. Conditions: those typed in each theorem. · '==' and '!=' of arrays of twelve numbers. Conditions: none.
-/
import Derived.Test.YtpjleeeligahaaaGreatDoorGQ0
import Derived.Test.YtpjleeeligahaaaGreatDoorGQ2
import Derived.Test.YtpjleeeligahaaaGreatDoorGQ5
import Derived.Test.YtpjleeeligahaaaGreatDoorGQ6
import Derived.Lib.SmallJoins
import Derived.Deep.Slices
import Derived.Test.YtpjleeeligahaaaGreatDoorGQ1
import Derived.Test.YtpjleeeligahaaaGreatDoorGQ4
import Derived.Shelf.Abstract
import Derived.ChangeKeysEq
namespace Go.Proofs.YtpjleeeligahaaaGreatDoor
open Go.RowKit Go.WideShapes Go.ChangeShapes

section
open Go.Joins Go.Deep
variable {H : Type} {enc : TypeId × Value → H}
theorem cellsCr : Tryz.prog.cellsOf 61 = 4 := by kernel_rfl
theorem cellsLr : Tryz.prog.cellsOf 49 = 11 := by kernel_rfl
set_option maxRecDepth 100000 in
/-- An argument that is a slice of elements of z cells each, opened. -/
theorem open_rowX {X : Type} (f : X → Array Value) (P : X → Prop) (x0 : X) {z : Nat} (hz : 0 < z) (hs : ∀ x, (f x).size = z) {t te : TypeId} (ht : Tryz.prog.underlying t = some (.slice te)) (hce : Tryz.prog.cellsOf te = z) {W : World}
    (hE : ∀ {base : Nat} {spare : Nat → Bool} {held : Bool} {fuel : Nat} {cs : List Value} {y : DataW H × List MemPlace}, cs.length = z → DataW.trod enc Tryz.prog W base spare held fuel te cs = some y → ∃ x : X, cs = (f x).toList ∧ P x)
    {r : Reach} {b0 : Nat} {v : Value} {d : DataW H} {p : List MemPlace} (hv : Value.okWide Tryz.prog W r b0 t v) (h : DataW.Trod enc Tryz.prog W 0 (fun _ => true) true t v d p) :
    ∃ (A : Option Addr) (n c : Nat) (l : List X), v = .slice A n c ∧ l.length = n ∧ RdX z W.heap.size W A (l.map f) ∧ n ≤ maxLen ∧ ∀ x, x ∈ l → P x := by
  obtain ⟨A, n, c, rfl⟩ := okWide_slice ht hv
  obtain ⟨fuel, hf⟩ := h
  rcases open_slice ht hf with ⟨hcs, _⟩ | ⟨a, len, cap, m, fu, D, Pl, hcs, _, hl, hm, hmm, _, hi⟩
  · simp [Value.cells] at hcs
    obtain ⟨rfl, rfl, rfl⟩ := hcs
    exact ⟨none, 0, 0, [], rfl, rfl, RdX.nil _ _ _ _, Nat.zero_le _, fun x hx => by simp at hx⟩
  · simp [Value.cells] at hcs
    obtain ⟨rfl, rfl, rfl⟩ := hcs
    have hle : n ≤ m := by rw [hmm]; simp; omega
    have hx : ∀ i, ∃ x : X, i < n → P x ∧ ∀ j v, (f x)[j]? = some v → W.cell? (a.add (i * z + j)) = some v := by
      intro i
      by_cases hin : i < n
      · obtain ⟨cs', hc, ht'⟩ := hi i (by omega)
        rw [hce] at hc
        obtain ⟨_, hlen, hcell⟩ := World.cells?_some hc
        obtain ⟨x, rfl, hfx⟩ := hE hlen ht'
        refine ⟨x, fun _ => ⟨hfx, fun j v hj => ?_⟩⟩
        have hj10 : j < z := by
          have := (Array.getElem?_eq_some_iff.1 hj).1
          rw [hs] at this
          exact this
        rw [← add_add', hcell j hj10, Array.getElem?_toList]
        exact hj
      · exact ⟨x0, fun h => absurd h hin⟩
    have hF : ∃ g : Nat → X, ∀ i, i < n → P (g i) ∧ ∀ j v, (f (g i))[j]? = some v → W.cell? (a.add (i * z + j)) = some v := ⟨fun i => Classical.choose (hx i), fun i => Classical.choose_spec (hx i)⟩
    obtain ⟨g, hg⟩ := hF
    refine ⟨some a, n, c, (List.range n).map g, rfl, by simp, fun k x hx => ?_, by omega, fun x hx => ?_⟩
    · have hk : k < n := by
        have := (List.getElem?_eq_some_iff.1 hx).1
        simpa using this
      have e : x = f (g k) := by
        rw [List.getElem?_map, List.getElem?_map, List.getElem?_range hk] at hx
        injection hx with hx
        exact hx.symm
      subst e
      have h0 : 0 < (f (g k)).size := by rw [hs]; exact hz
      have hc := (hg k hk).2 0 _ (Array.getElem?_eq_getElem h0)
      have hb := World.block_lt_of_cell? W _ hc
      rw [add_block] at hb
      exact ⟨a, rfl, hb, (hg k hk).2⟩
    · obtain ⟨k, hk, rfl⟩ := List.mem_map.1 hx
      exact (hg k (List.mem_range.1 hk)).1
set_option maxRecDepth 100000 in
/-- Four cells that read as a cell. -/
theorem open_clR {W : World} {base : Nat} {spare : Nat → Bool} {held : Bool} {fuel : Nat} {cs : List Value} {y : DataW H × List MemPlace} (hl : cs.length = 4) (h : DataW.trod enc Tryz.prog W base spare held fuel 61 cs = some y) : ∃ x : Cl, cs = x.cells.toList ∧ x.fits := by
  match cs, hl with
  | [c0, c1, c2, c3], _ =>
    obtain ⟨y0, y1, n, _, _, h0, h1⟩ := trod_struct2 Tryz.underlying61 h
    simp only [cellsSw, cellsVw, List.drop_zero, List.drop_succ_cons, List.take_succ_cons, List.take_zero] at h0 h1
    obtain ⟨ky, e0, rfl, wk⟩ := DataW.trod_string Tryz.underlying9 h0
    simp at e0
    subst e0
    obtain ⟨k, n, s, rfl, rfl, rfl, wn, ws⟩ := open_valW h1
    exact ⟨⟨ky, k, n, s⟩, rfl, wk, ws, (wf_i64 wn).1, (wf_i64 wn).2⟩
set_option maxRecDepth 100000 in
theorem open_cells {t : TypeId} (ht : Tryz.prog.underlying t = some (.slice 61)) {W : World} {r : Reach} {b0 : Nat} {v : Value} {d : DataW H} {p : List MemPlace} (hv : Value.okWide Tryz.prog W r b0 t v) (h : DataW.Trod enc Tryz.prog W 0 (fun _ => true) true t v d p) :
    ∃ (A : Option Addr) (n c : Nat) (l : List Cl), v = .slice A n c ∧ l.length = n ∧ RdX 4 W.heap.size W A (l.map Cl.cells) ∧ n ≤ maxLen ∧ ∀ x, x ∈ l → x.fits :=
  open_rowX Cl.cells Cl.fits ⟨⟨#[]⟩, 0, 0, ⟨#[]⟩⟩ (by omega) (fun _ => rfl) ht cellsCr (fun hl h => open_clR hl h) hv h
set_option maxRecDepth 100000 in
/-- Eleven cells that read as a line. -/
theorem open_lnR {W : World} {base : Nat} {spare : Nat → Bool} {held : Bool} {fuel : Nat} {cs : List Value} {y : DataW H × List MemPlace} (hl : cs.length = 11) (h : DataW.trod enc Tryz.prog W base spare held fuel 49 cs = some y) : ∃ x : Ln, cs = x.cells.toList ∧ x.fits := by
  match cs, hl with
  | [c0, c1, c2, c3, c4, c5, c6, c7, c8, c9, c10], _ =>
    obtain ⟨y0, y1, n, _, _, h0, h1⟩ := trod_struct2 Tryz.underlying49 h
    simp only [cellsIw, cellsWw, List.drop_zero, List.drop_succ_cons, List.take_succ_cons, List.take_zero] at h0 h1
    obtain ⟨pl, e0, rfl, _⟩ := DataW.trod_int Tryz.underlying3 h0
    simp at e0
    subst e0
    obtain ⟨x, hx, hf⟩ := open_wrW (by rfl) h1
    exact ⟨⟨pl, x⟩, by rw [hx], hf⟩
set_option maxRecDepth 100000 in
theorem open_lines {t : TypeId} (ht : Tryz.prog.underlying t = some (.slice 49)) {W : World} {r : Reach} {b0 : Nat} {v : Value} {d : DataW H} {p : List MemPlace} (hv : Value.okWide Tryz.prog W r b0 t v) (h : DataW.Trod enc Tryz.prog W 0 (fun _ => true) true t v d p) :
    ∃ (A : Option Addr) (n c : Nat) (l : List Ln), v = .slice A n c ∧ l.length = n ∧ RdX 11 W.heap.size W A (l.map Ln.cells) ∧ n ≤ maxLen ∧ ∀ x, x ∈ l → x.fits :=
  open_rowX Ln.cells Ln.fits ⟨0, ⟨0, 0, 0, ⟨#[]⟩, 0, 0, ⟨#[]⟩, 0, 0, ⟨#[]⟩⟩⟩ (by omega) (fun _ => rfl) ht cellsLr (fun hl h => open_lnR hl h) hv h
end
end Go.Proofs.YtpjleeeligahaaaGreatDoor

namespace Go.Proofs.YtpjleeeligahaaaGreatDoor
open Go.RowKit

/-- The slice at A reads as the rows l, in blocks below B. -/
def RdBB (B : Nat) (W : World) (A : Option Addr) (l : List (List UInt8)) : Prop :=
  ∀ k x, l[k]? = some x → ∃ ad A' c', A = some ad ∧ ad.block < B ∧ W.cell? (ad.add k) = some (.slice A' x.length c') ∧ RdB B W A' x ∧ x.length ≤ c'
theorem RdBB.nil (B : Nat) (W : World) (A : Option Addr) : RdBB B W A [] := fun k x h => by simp at h
theorem RdBB.keep {B C : Nat} {W W' : World} {A : Option Addr} {l : List (List UInt8)} (h : RdBB B W A l) (hb : Below C W W') (hBC : B ≤ C) : RdBB B W' A l := by
  intro k x hx
  obtain ⟨ad, A', c', hA, hl, h1, h2, h3⟩ := h k x hx
  exact ⟨ad, A', c', hA, hl, (hb.cell (by rw [add_block]; omega)).trans h1, h2.keep hb hBC, h3⟩
end Go.Proofs.YtpjleeeligahaaaGreatDoor

namespace Go.Proofs.YtpjleeeligahaaaGreatDoor
open Go.RowKit Go.WideShapes Go.ChangeShapes

section
open Go.Deep
variable {H : Type} {enc : TypeId × Value → H}
/-- An argument that is a byte, opened. -/
theorem open_u8 {P : Program} {t : TypeId} (ht : P.underlying t = some (.int .u8)) {W : World} {base : Nat} {spare : Nat → Bool} {held : Bool} {r : Reach} {b0 : Nat} {v : Value} {d : DataW H} {p : List MemPlace} (hv : Value.okWide P W r b0 t v) (h : DataW.Trod enc P W base spare held t v d p) :
    ∃ x : UInt8, v = .int .u8 (x.toNat : Int) := by
  obtain ⟨n, rfl, _, _, hw⟩ := open_int ht hv h
  exact ⟨UInt8.ofNat n.toNat, by rw [← wf_u8 hw]⟩
theorem cellsSl : Tryz.prog.cellsOf 23 = 1 := by kernel_rfl
/-- A cell that reads as bytes. -/
theorem rd_bytl {t : TypeId} (ht : Tryz.prog.underlying t = some (.slice 5)) {W : World} {fuel : Nat} {cs : List Value} {y : DataW H × List MemPlace} (h : DataW.trod enc Tryz.prog W 0 (fun _ => true) true fuel t cs = some y) :
    ∃ (A : Option Addr) (n c : Nat) (l : List UInt8), cs = [.slice A n c] ∧ l.length = n ∧ RdB W.heap.size W A l ∧ n ≤ c := by
  rcases open_ints ht Tryz.underlying5 cellsB1 h with ⟨hcs, _⟩ | ⟨a, n, c, zs, hcs, _, hl, hm, hmm, _, hcell, hwf⟩
  · exact ⟨none, 0, 0, [], hcs, rfl, RdB.nil _ _ _, Nat.le_refl _⟩
  · have hle : n ≤ zs.length := by rw [hmm]; simp; omega
    refine ⟨some a, n, c, (zs.take n).map (fun z => UInt8.ofNat z.toNat), hcs, by rw [List.length_map, List.length_take]; omega, fun k x hx => ?_, hl⟩
    have hk : k < n := by
      have := (List.getElem?_eq_some_iff.1 hx).1
      rw [List.length_map, List.length_take] at this
      omega
    have hkz : k < zs.length := by omega
    have hc := hcell k hkz
    have e : zs.getD k 0 = zs[k] := by rw [List.getD_eq_getElem?_getD, List.getElem?_eq_getElem hkz]; rfl
    rw [List.getElem?_map, List.getElem?_take, if_pos hk, List.getElem?_eq_getElem hkz] at hx
    injection hx with hx
    subst hx
    have hb := World.block_lt_of_cell? W _ hc
    rw [add_block] at hb
    refine ⟨a, rfl, hb, ?_⟩
    rw [hc, e]
    have := wf_u8 (hwf zs[k] (List.getElem_mem hkz))
    rw [← this]
set_option maxRecDepth 100000 in
/-- An argument that is a slice of slices of bytes, opened. -/
theorem open_rows {t : TypeId} (ht : Tryz.prog.underlying t = some (.slice 23)) {W : World} {r : Reach} {b0 : Nat} {v : Value} {d : DataW H} {p : List MemPlace} (hv : Value.okWide Tryz.prog W r b0 t v) (h : DataW.Trod enc Tryz.prog W 0 (fun _ => true) true t v d p) :
    ∃ (A : Option Addr) (n c : Nat) (l : List (List UInt8)), v = .slice A n c ∧ l.length = n ∧ RdBB W.heap.size W A l ∧ n ≤ maxLen := by
  obtain ⟨A, n, c, rfl⟩ := okWide_slice ht hv
  obtain ⟨fuel, hf⟩ := h
  rcases open_slice ht hf with ⟨hcs, _⟩ | ⟨a, len, cap, m, f, D, Pl, hcs, _, hl, hm, hmm, _, hi⟩
  · simp [Value.cells] at hcs
    obtain ⟨rfl, rfl, rfl⟩ := hcs
    exact ⟨none, 0, 0, [], rfl, rfl, RdBB.nil _ _ _, Nat.zero_le _⟩
  · simp [Value.cells] at hcs
    obtain ⟨rfl, rfl, rfl⟩ := hcs
    have hle : n ≤ m := by rw [hmm]; simp; omega
    have hx : ∀ i, ∃ x : List UInt8, i < n → ∃ A' c', W.cell? (a.add i) = some (.slice A' x.length c') ∧ RdB W.heap.size W A' x ∧ x.length ≤ c' := by
      intro i
      by_cases hin : i < n
      · obtain ⟨cs', hc, ht'⟩ := hi i (by omega)
        rw [cellsSl, Nat.mul_one] at hc
        obtain ⟨_, hlen, hcell⟩ := World.cells?_some hc
        obtain ⟨A', n', c', x, rfl, hn', hr', hc'⟩ := rd_bytl Tryz.underlying23 ht'
        refine ⟨x, fun _ => ⟨A', c', ?_, hr', by omega⟩⟩
        have h0 := hcell 0 (by omega)
        rw [hn']
        simpa [Addr.add] using h0
      · exact ⟨[], fun h => absurd h hin⟩
    have hF : ∃ f : Nat → List UInt8, ∀ i, i < n → ∃ A' c', W.cell? (a.add i) = some (.slice A' (f i).length c') ∧ RdB W.heap.size W A' (f i) ∧ (f i).length ≤ c' := ⟨fun i => Classical.choose (hx i), fun i => Classical.choose_spec (hx i)⟩
    obtain ⟨g, hg⟩ := hF
    refine ⟨some a, n, c, (List.range n).map g, rfl, by simp, fun k x hx => ?_, by omega⟩
    have hk : k < n := by
      have := (List.getElem?_eq_some_iff.1 hx).1
      simpa using this
    have e : x = g k := by
      rw [List.getElem?_map, List.getElem?_range hk] at hx
      injection hx with hx
      exact hx.symm
    subst e
    obtain ⟨A', c', h1, h2, h3⟩ := hg k hk
    have hb := World.block_lt_of_cell? W _ h1
    rw [add_block] at hb
    exact ⟨a, A', c', rfl, hb, h1, h2, h3⟩
end
end Go.Proofs.YtpjleeeligahaaaGreatDoor

namespace Go.Proofs.YtpjleeeligahaaaGreatDoor
open Go.RowKit

structure Lt where
  (k fr tt li tu pr lo fi st ta sr en : Int)
  sn : Bool
  re : List ByteArray
  ws : List Wr
  ls : List Ln
  cs : List Cl
  (a0 a1 a2 a3 a4 a5 a6 a7 a8 a9 a10 a11 : Int)
abbrev Lt.la (x : Lt) : List Int := laL x.a0 x.a1 x.a2 x.a3 x.a4 x.a5 x.a6 x.a7 x.a8 x.a9 x.a10 x.a11
abbrev Lt.laV (x : Lt) : List Value := [.int .i64 x.a0, .int .i64 x.a1, .int .i64 x.a2, .int .i64 x.a3, .int .i64 x.a4, .int .i64 x.a5, .int .i64 x.a6, .int .i64 x.a7, .int .i64 x.a8, .int .i64 x.a9, .int .i64 x.a10, .int .i64 x.a11]
/-- Where its lists lie: a slice each (reach, writes, lines, cells). -/
structure Hn where
  (A1 A2 A3 A4 : Option Addr)
  (n1 c1 n2 c2 n3 c3 n4 c4 : Nat)
/-- A letter's cells. -/
abbrev ltI (x : Lt) (h : Hn) : Array Value :=
  #[.int .i64 x.k, .int .i64 x.fr, .int .i64 x.tt, .int .i64 x.li, .int .i64 x.tu, .int .i64 x.pr, .int .i64 x.lo, .int .i64 x.fi, .int .i64 x.st, .int .i64 x.ta, .int .i64 x.sr, .int .i64 x.en, .bool x.sn,
    .slice h.A1 h.n1 h.c1, .slice h.A2 h.n2 h.c2, .slice h.A3 h.n3 h.c3, .slice h.A4 h.n4 h.c4,
    .int .i64 x.a0, .int .i64 x.a1, .int .i64 x.a2, .int .i64 x.a3, .int .i64 x.a4, .int .i64 x.a5, .int .i64 x.a6, .int .i64 x.a7, .int .i64 x.a8, .int .i64 x.a9, .int .i64 x.a10, .int .i64 x.a11]
/-- Its lists read so, in blocks below B. -/
structure LtR (B : Nat) (W : World) (x : Lt) (h : Hn) : Prop where
  l1 : x.re.length = h.n1
  r1 : RdS B W h.A1 x.re
  l2 : x.ws.length = h.n2
  r2 : RdW B W h.A2 x.ws
  l3 : x.ls.length = h.n3
  r3 : RdX 11 B W h.A3 (x.ls.map Ln.cells)
  l4 : x.cs.length = h.n4
  r4 : RdX 4 B W h.A4 (x.cs.map Cl.cells)
theorem LtR.keep {B C : Nat} {W W' : World} {x : Lt} {h : Hn} (H : LtR B W x h) (hb : Below C W W') (hBC : B ≤ C) : LtR B W' x h :=
  ⟨H.l1, H.r1.keep hb hBC, H.l2, H.r2.keep hb hBC, H.l3, H.r3.keep hb hBC, H.l4, H.r4.keep hb hBC⟩
/-- What any letter handed in has: its texts and numbers are a machine's. -/
structure LtF (x : Lt) : Prop where
  f1 : ∀ s, s ∈ x.re → s.size ≤ maxLen
  f2 : ∀ y, y ∈ x.ws → y.fits
  f3 : ∀ y, y ∈ x.ls → y.fits
  f4 : ∀ y, y ∈ x.cs → y.fits
  m1 : x.re.length ≤ maxLen
  m2 : x.ws.length ≤ maxLen
  m3 : x.ls.length ≤ maxLen
  m4 : x.cs.length ≤ maxLen

def inB (n a b : Int) : Bool := decide (a ≤ n ∧ n ≤ b)
theorem inB_yes {n a b : Int} (h : inB n a b = true) : a ≤ n ∧ n ≤ b := of_decide_eq_true h
def headB (x : Lt) : Bool := inB x.k 1 4 && inB x.fr 0 11 && inB x.tt 0 11 && !(x.fr == x.tt) && inB x.li 1 1073741824 && inB x.tu 1 1048576
def zeroLa (x : Lt) : Bool := decide (x.la = [0, 0, 0, 0, 0, 0, 0, 0, 0, 0, 0, 0])
/-- Has it what its kind doesn't use? -/
def badUse (x : Lt) : Bool :=
  (decide (2 < x.k) && (x.pr != 0)) || ((x.k != 2) && ((x.lo != 0) || (x.fi != 0))) || (((x.k != 2) && (x.k != 3)) && ((x.st != 0) || decide (0 < x.ws.length)))
    || ((x.k != 3) && ((x.ta != 0) || (x.sr != 0) || (x.en != 0) || decide (0 < x.ls.length) || x.sn)) || ((x.k != 1) && decide (0 < x.re.length)) || (!x.sn && (decide (0 < x.cs.length) || !zeroLa x))
def numsB (x : Lt) : Bool := inB x.pr 0 4096 && inB x.lo 0 x.pr && inB x.en 0 4096 && inB x.sr 0 x.en && inB x.st 0 1099511627776 && inB x.ta 0 1099511627776 && inB x.fi 0 1099511627776
def linesB (x : Lt) : Bool := x.ls.all fun y => inB y.pl x.sr (x.en - 1)
noncomputable def tailB (x : Lt) : Bool := decide (x.ws.length ≤ 512) && goodAll x.ws && goodR (dL x.re) && goodLns x.ls && goodCls x.cs && goodLa x.la
noncomputable def goodLt (x : Lt) : Bool := headB x && !badUse x && numsB x && linesB x && tailB x
theorem kind_4 {x : Lt} (h : headB x = true) : x.k = 1 ∨ x.k = 2 ∨ x.k = 3 ∨ x.k = 4 := by
  unfold headB at h
  simp only [Bool.and_eq_true] at h
  have := inB_yes h.1.1.1.1.1
  omega
theorem nums_en {x : Lt} (h : numsB x = true) : (0 ≤ x.sr ∧ x.sr ≤ x.en) ∧ 0 ≤ x.en ∧ x.en ≤ 4096 := by
  unfold numsB at h
  simp only [Bool.and_eq_true] at h
  exact ⟨inB_yes h.1.1.1.2, inB_yes h.1.1.1.1.2⟩
end Go.Proofs.YtpjleeeligahaaaGreatDoor

namespace Go.Proofs.YtpjleeeligahaaaGreatDoor
open Go.RowKit Go.WideShapes Go.ChangeShapes Go.Deep

theorem cellsLt : Tryz.prog.cellsOf 58 = 29 := by kernel_rfl
theorem cellsRe : Tryz.prog.cellsOf 53 = 1 := by kernel_rfl
theorem cellsWs : Tryz.prog.cellsOf 37 = 1 := by kernel_rfl
theorem cellsLs : Tryz.prog.cellsOf 22 = 1 := by kernel_rfl
theorem cellsCs : Tryz.prog.cellsOf 54 = 1 := by kernel_rfl
theorem cellsBo : Tryz.prog.cellsOf 4 = 1 := by kernel_rfl
section
variable {H : Type} {enc : TypeId × Value → H}
set_option maxRecDepth 100000 in
/-- A cell that reads as a row of elements of z cells each. -/
theorem rd_rowX {X : Type} (f : X → Array Value) (P : X → Prop) (x0 : X) {z : Nat} (hz : 0 < z) (hs : ∀ x, (f x).size = z) {t te : TypeId} (ht : Tryz.prog.underlying t = some (.slice te)) (hce : Tryz.prog.cellsOf te = z) {W : World}
    (hE : ∀ {base : Nat} {spare : Nat → Bool} {held : Bool} {fuel : Nat} {cs : List Value} {y : DataW H × List MemPlace}, cs.length = z → DataW.trod enc Tryz.prog W base spare held fuel te cs = some y → ∃ x : X, cs = (f x).toList ∧ P x)
    {fuel : Nat} {cs : List Value} {y : DataW H × List MemPlace} (h : DataW.trod enc Tryz.prog W 0 (fun _ => true) true fuel t cs = some y) :
    ∃ (A : Option Addr) (n c : Nat) (l : List X), cs = [.slice A n c] ∧ l.length = n ∧ RdX z W.heap.size W A (l.map f) ∧ n ≤ maxLen ∧ ∀ x, x ∈ l → P x := by
  rcases open_slice ht h with ⟨hcs, _⟩ | ⟨a, n, c, m, fu, D, Pl, hcs, _, hl, hm, hmm, _, hi⟩
  · exact ⟨none, 0, 0, [], hcs, rfl, RdX.nil _ _ _ _, Nat.zero_le _, fun x hx => by simp at hx⟩
  · have hle : n ≤ m := by rw [hmm]; simp; omega
    have hx : ∀ i, ∃ x : X, i < n → P x ∧ ∀ j v, (f x)[j]? = some v → W.cell? (a.add (i * z + j)) = some v := by
      intro i
      by_cases hin : i < n
      · obtain ⟨cs', hc, ht'⟩ := hi i (by omega)
        rw [hce] at hc
        obtain ⟨_, hlen, hcell⟩ := World.cells?_some hc
        obtain ⟨x, rfl, hfx⟩ := hE hlen ht'
        refine ⟨x, fun _ => ⟨hfx, fun j v hj => ?_⟩⟩
        have hj10 : j < z := by
          have := (Array.getElem?_eq_some_iff.1 hj).1
          rw [hs] at this
          exact this
        rw [← add_add', hcell j hj10, Array.getElem?_toList]
        exact hj
      · exact ⟨x0, fun h => absurd h hin⟩
    have hF : ∃ g : Nat → X, ∀ i, i < n → P (g i) ∧ ∀ j v, (f (g i))[j]? = some v → W.cell? (a.add (i * z + j)) = some v := ⟨fun i => Classical.choose (hx i), fun i => Classical.choose_spec (hx i)⟩
    obtain ⟨g, hg⟩ := hF
    refine ⟨some a, n, c, (List.range n).map g, hcs, by simp, fun k x hx => ?_, by omega, fun x hx => ?_⟩
    · have hk : k < n := by
        have := (List.getElem?_eq_some_iff.1 hx).1
        simpa using this
      have e : x = f (g k) := by
        rw [List.getElem?_map, List.getElem?_map, List.getElem?_range hk] at hx
        injection hx with hx
        exact hx.symm
      subst e
      have h0 : 0 < (f (g k)).size := by rw [hs]; exact hz
      have hc := (hg k hk).2 0 _ (Array.getElem?_eq_getElem h0)
      have hb := World.block_lt_of_cell? W _ hc
      rw [add_block] at hb
      exact ⟨a, rfl, hb, (hg k hk).2⟩
    · obtain ⟨k, hk, rfl⟩ := List.mem_map.1 hx
      exact (hg k (List.mem_range.1 hk)).1
theorem open_stR {W : World} {base : Nat} {spare : Nat → Bool} {held : Bool} {fuel : Nat} {cs : List Value} {y : DataW H × List MemPlace} (_hl : cs.length = 1) (h : DataW.trod enc Tryz.prog W base spare held fuel 9 cs = some y) : ∃ x : ByteArray, cs = (#[.string x] : Array Value).toList ∧ x.size ≤ maxLen := by
  obtain ⟨s, e0, _, ws⟩ := DataW.trod_string Tryz.underlying9 h
  exact ⟨s, e0, ws⟩
theorem rds_of1 {B : Nat} {W : World} {A : Option Addr} {l : List ByteArray} (h : RdX 1 B W A (l.map fun s => #[.string s])) : RdS B W A l := by
  intro k x hx
  obtain ⟨ad, hA, hl, hc⟩ := h k #[.string x] (by rw [List.getElem?_map, hx]; rfl)
  refine ⟨ad, hA, hl, ?_⟩
  have := hc 0 _ rfl
  simpa using this
theorem rdw_of {B : Nat} {W : World} {A : Option Addr} {l : List Wr} (h : RdX 10 B W A (l.map Wr.cells)) : RdW B W A l := fun k x hx => h k x.cells (by rw [List.getElem?_map, hx]; rfl)
theorem len1 {a b : Value} (h : [a] = [b]) : a = b := by simpa using h
theorem trod_struct18 {P : Program} {w : World} {base : Nat} {spare : Nat → Bool} {held : Bool} {t : TypeId} {f0 f1 f2 f3 f4 f5 f6 f7 f8 f9 f10 f11 f12 f13 f14 f15 f16 f17 : Field} {fuel : Nat} {cs : List Value} {x : DataW H × List MemPlace} (ht : P.underlying t = some (.struct #[f0, f1, f2, f3, f4, f5, f6, f7, f8, f9, f10, f11, f12, f13, f14, f15, f16, f17])) (h : DataW.trod enc P w base spare held fuel t cs = some x) :
    ∃ n, (∃ y, DataW.trod enc P w base spare held n f0.type ((cs.drop f0.offset).take (P.cellsOf f0.type)) = some y) ∧ (∃ y, DataW.trod enc P w base spare held n f1.type ((cs.drop f1.offset).take (P.cellsOf f1.type)) = some y) ∧ (∃ y, DataW.trod enc P w base spare held n f2.type ((cs.drop f2.offset).take (P.cellsOf f2.type)) = some y) ∧ (∃ y, DataW.trod enc P w base spare held n f3.type ((cs.drop f3.offset).take (P.cellsOf f3.type)) = some y) ∧ (∃ y, DataW.trod enc P w base spare held n f4.type ((cs.drop f4.offset).take (P.cellsOf f4.type)) = some y) ∧ (∃ y, DataW.trod enc P w base spare held n f5.type ((cs.drop f5.offset).take (P.cellsOf f5.type)) = some y) ∧ (∃ y, DataW.trod enc P w base spare held n f6.type ((cs.drop f6.offset).take (P.cellsOf f6.type)) = some y) ∧ (∃ y, DataW.trod enc P w base spare held n f7.type ((cs.drop f7.offset).take (P.cellsOf f7.type)) = some y) ∧ (∃ y, DataW.trod enc P w base spare held n f8.type ((cs.drop f8.offset).take (P.cellsOf f8.type)) = some y) ∧ (∃ y, DataW.trod enc P w base spare held n f9.type ((cs.drop f9.offset).take (P.cellsOf f9.type)) = some y) ∧ (∃ y, DataW.trod enc P w base spare held n f10.type ((cs.drop f10.offset).take (P.cellsOf f10.type)) = some y) ∧ (∃ y, DataW.trod enc P w base spare held n f11.type ((cs.drop f11.offset).take (P.cellsOf f11.type)) = some y) ∧ (∃ y, DataW.trod enc P w base spare held n f12.type ((cs.drop f12.offset).take (P.cellsOf f12.type)) = some y) ∧ (∃ y, DataW.trod enc P w base spare held n f13.type ((cs.drop f13.offset).take (P.cellsOf f13.type)) = some y) ∧ (∃ y, DataW.trod enc P w base spare held n f14.type ((cs.drop f14.offset).take (P.cellsOf f14.type)) = some y) ∧ (∃ y, DataW.trod enc P w base spare held n f15.type ((cs.drop f15.offset).take (P.cellsOf f15.type)) = some y) ∧ (∃ y, DataW.trod enc P w base spare held n f16.type ((cs.drop f16.offset).take (P.cellsOf f16.type)) = some y) ∧ (∃ y, DataW.trod enc P w base spare held n f17.type ((cs.drop f17.offset).take (P.cellsOf f17.type)) = some y) := by
  obtain ⟨xs, n, _, rfl, _, hlen, hf⟩ := DataW.trod_struct ht h
  have hl : xs.length = 18 := hlen
  obtain ⟨y0, e0⟩ := arr_getR hl (i := 0) (by omega)
  obtain ⟨y1, e1⟩ := arr_getR hl (i := 1) (by omega)
  obtain ⟨y2, e2⟩ := arr_getR hl (i := 2) (by omega)
  obtain ⟨y3, e3⟩ := arr_getR hl (i := 3) (by omega)
  obtain ⟨y4, e4⟩ := arr_getR hl (i := 4) (by omega)
  obtain ⟨y5, e5⟩ := arr_getR hl (i := 5) (by omega)
  obtain ⟨y6, e6⟩ := arr_getR hl (i := 6) (by omega)
  obtain ⟨y7, e7⟩ := arr_getR hl (i := 7) (by omega)
  obtain ⟨y8, e8⟩ := arr_getR hl (i := 8) (by omega)
  obtain ⟨y9, e9⟩ := arr_getR hl (i := 9) (by omega)
  obtain ⟨y10, e10⟩ := arr_getR hl (i := 10) (by omega)
  obtain ⟨y11, e11⟩ := arr_getR hl (i := 11) (by omega)
  obtain ⟨y12, e12⟩ := arr_getR hl (i := 12) (by omega)
  obtain ⟨y13, e13⟩ := arr_getR hl (i := 13) (by omega)
  obtain ⟨y14, e14⟩ := arr_getR hl (i := 14) (by omega)
  obtain ⟨y15, e15⟩ := arr_getR hl (i := 15) (by omega)
  obtain ⟨y16, e16⟩ := arr_getR hl (i := 16) (by omega)
  obtain ⟨y17, e17⟩ := arr_getR hl (i := 17) (by omega)
  exact ⟨n, ⟨y0, (hf 0 f0 rfl).trans e0⟩, ⟨y1, (hf 1 f1 rfl).trans e1⟩, ⟨y2, (hf 2 f2 rfl).trans e2⟩, ⟨y3, (hf 3 f3 rfl).trans e3⟩, ⟨y4, (hf 4 f4 rfl).trans e4⟩, ⟨y5, (hf 5 f5 rfl).trans e5⟩, ⟨y6, (hf 6 f6 rfl).trans e6⟩, ⟨y7, (hf 7 f7 rfl).trans e7⟩, ⟨y8, (hf 8 f8 rfl).trans e8⟩, ⟨y9, (hf 9 f9 rfl).trans e9⟩, ⟨y10, (hf 10 f10 rfl).trans e10⟩, ⟨y11, (hf 11 f11 rfl).trans e11⟩, ⟨y12, (hf 12 f12 rfl).trans e12⟩, ⟨y13, (hf 13 f13 rfl).trans e13⟩, ⟨y14, (hf 14 f14 rfl).trans e14⟩, ⟨y15, (hf 15 f15 rfl).trans e15⟩, ⟨y16, (hf 16 f16 rfl).trans e16⟩, ⟨y17, (hf 17 f17 rfl).trans e17⟩⟩
set_option maxRecDepth 100000 in
set_option maxHeartbeats 4000000 in
/-- An argument that is a letter, opened. -/
theorem open_letter {W : World} {r : Reach} {b0 : Nat} {v : Value} {d : DataW H} {p : List MemPlace} (hv : Value.okWide Tryz.prog W r b0 58 v) (h : DataW.Trod enc Tryz.prog W 0 (fun _ => true) true 58 v d p) :
    ∃ (x : Lt) (k : Hn), v = .agg (ltI x k) ∧ LtR W.heap.size W x k ∧ LtF x := by
  obtain ⟨cs, rfl, hsz⟩ := okWide_struct Tryz.underlying58 hv
  obtain ⟨l⟩ := cs
  match l, hsz.trans cellsLt with
  | [c0, c1, c2, c3, c4, c5, c6, c7, c8, c9, c10, c11, c12, c13, c14, c15, c16, c17, c18, c19, c20, c21, c22, c23, c24, c25, c26, c27, c28], _ =>
    obtain ⟨fuel, hf⟩ := h
    obtain ⟨m, ⟨y0, h0⟩, ⟨y1, h1⟩, ⟨y2, h2⟩, ⟨y3, h3⟩, ⟨y4, h4⟩, ⟨y5, h5⟩, ⟨y6, h6⟩, ⟨y7, h7⟩, ⟨y8, h8⟩, ⟨y9, h9⟩, ⟨y10, h10⟩, ⟨y11, h11⟩, ⟨y12, h12⟩, ⟨y13, h13⟩, ⟨y14, h14⟩, ⟨y15, h15⟩, ⟨y16, h16⟩, ⟨y17, h17⟩⟩ := trod_struct18 Tryz.underlying58 hf
    simp only [Value.cells, cellsIw, cellsBo, cellsRe, cellsWs, cellsLs, cellsCs, cellsTr, List.drop_zero, List.drop_succ_cons, List.take_succ_cons, List.take_zero] at h0 h1 h2 h3 h4 h5 h6 h7 h8 h9 h10 h11 h12 h13 h14 h15 h16 h17
    obtain ⟨k0, q0, _, _⟩ := DataW.trod_int Tryz.underlying3 h0
    obtain ⟨k1, q1, _, _⟩ := DataW.trod_int Tryz.underlying3 h1
    obtain ⟨k2, q2, _, _⟩ := DataW.trod_int Tryz.underlying3 h2
    obtain ⟨k3, q3, _, _⟩ := DataW.trod_int Tryz.underlying3 h3
    obtain ⟨k4, q4, _, _⟩ := DataW.trod_int Tryz.underlying3 h4
    obtain ⟨k5, q5, _, _⟩ := DataW.trod_int Tryz.underlying3 h5
    obtain ⟨k6, q6, _, _⟩ := DataW.trod_int Tryz.underlying3 h6
    obtain ⟨k7, q7, _, _⟩ := DataW.trod_int Tryz.underlying3 h7
    obtain ⟨k8, q8, _, _⟩ := DataW.trod_int Tryz.underlying3 h8
    obtain ⟨k9, q9, _, _⟩ := DataW.trod_int Tryz.underlying3 h9
    obtain ⟨k10, q10, _, _⟩ := DataW.trod_int Tryz.underlying3 h10
    obtain ⟨k11, q11, _, _⟩ := DataW.trod_int Tryz.underlying3 h11
    obtain ⟨k12, q12, _⟩ := DataW.trod_bool Tryz.underlying4 h12
    obtain ⟨A1, n1, d1, l1, q13, z1, r1, m1, f1⟩ := rd_rowX (z := 1) (fun s : ByteArray => #[.string s]) (fun s => s.size ≤ maxLen) ⟨#[]⟩ (by omega) (fun _ => rfl) Tryz.underlying53 cellsSw (fun hl h => open_stR hl h) h13
    obtain ⟨A2, n2, d2, l2, q14, z2, r2, m2, f2⟩ := rd_rowX Wr.cells Wr.fits ⟨0, 0, 0, ⟨#[]⟩, 0, 0, ⟨#[]⟩, 0, 0, ⟨#[]⟩⟩ (by omega) (fun _ => rfl) Tryz.underlying37 cellsWw (fun hl h => open_wrW hl h) h14
    obtain ⟨A3, n3, d3, l3, q15, z3, r3, m3, f3⟩ := rd_rowX Ln.cells Ln.fits ⟨0, ⟨0, 0, 0, ⟨#[]⟩, 0, 0, ⟨#[]⟩, 0, 0, ⟨#[]⟩⟩⟩ (by omega) (fun _ => rfl) Tryz.underlying22 cellsLr (fun hl h => open_lnR hl h) h15
    obtain ⟨A4, n4, d4, l4, q16, z4, r4, m4, f4⟩ := rd_rowX Cl.cells Cl.fits ⟨⟨#[]⟩, 0, 0, ⟨#[]⟩⟩ (by omega) (fun _ => rfl) Tryz.underlying54 cellsCr (fun hl h => open_clR hl h) h16
    obtain ⟨us, m5, _, _, _, ul, ux⟩ := DataW.trod_array Tryz.underlying56 h17
    obtain ⟨w0, g0⟩ := arr_getR ul (i := 0) (by omega)
    have t0 := (ux 0 (by omega)).trans g0
    obtain ⟨w1, g1⟩ := arr_getR ul (i := 1) (by omega)
    have t1 := (ux 1 (by omega)).trans g1
    obtain ⟨w2, g2⟩ := arr_getR ul (i := 2) (by omega)
    have t2 := (ux 2 (by omega)).trans g2
    obtain ⟨w3, g3⟩ := arr_getR ul (i := 3) (by omega)
    have t3 := (ux 3 (by omega)).trans g3
    obtain ⟨w4, g4⟩ := arr_getR ul (i := 4) (by omega)
    have t4 := (ux 4 (by omega)).trans g4
    obtain ⟨w5, g5⟩ := arr_getR ul (i := 5) (by omega)
    have t5 := (ux 5 (by omega)).trans g5
    obtain ⟨w6, g6⟩ := arr_getR ul (i := 6) (by omega)
    have t6 := (ux 6 (by omega)).trans g6
    obtain ⟨w7, g7⟩ := arr_getR ul (i := 7) (by omega)
    have t7 := (ux 7 (by omega)).trans g7
    obtain ⟨w8, g8⟩ := arr_getR ul (i := 8) (by omega)
    have t8 := (ux 8 (by omega)).trans g8
    obtain ⟨w9, g9⟩ := arr_getR ul (i := 9) (by omega)
    have t9 := (ux 9 (by omega)).trans g9
    obtain ⟨w10, g10⟩ := arr_getR ul (i := 10) (by omega)
    have t10 := (ux 10 (by omega)).trans g10
    obtain ⟨w11, g11⟩ := arr_getR ul (i := 11) (by omega)
    have t11 := (ux 11 (by omega)).trans g11
    simp only [cellsIw, Nat.mul_one, List.drop_zero, List.drop_succ_cons, List.take_succ_cons, List.take_zero] at t0 t1 t2 t3 t4 t5 t6 t7 t8 t9 t10 t11
    obtain ⟨a0, s0, _, _⟩ := DataW.trod_int Tryz.underlying3 t0
    obtain ⟨a1, s1, _, _⟩ := DataW.trod_int Tryz.underlying3 t1
    obtain ⟨a2, s2, _, _⟩ := DataW.trod_int Tryz.underlying3 t2
    obtain ⟨a3, s3, _, _⟩ := DataW.trod_int Tryz.underlying3 t3
    obtain ⟨a4, s4, _, _⟩ := DataW.trod_int Tryz.underlying3 t4
    obtain ⟨a5, s5, _, _⟩ := DataW.trod_int Tryz.underlying3 t5
    obtain ⟨a6, s6, _, _⟩ := DataW.trod_int Tryz.underlying3 t6
    obtain ⟨a7, s7, _, _⟩ := DataW.trod_int Tryz.underlying3 t7
    obtain ⟨a8, s8, _, _⟩ := DataW.trod_int Tryz.underlying3 t8
    obtain ⟨a9, s9, _, _⟩ := DataW.trod_int Tryz.underlying3 t9
    obtain ⟨a10, s10, _, _⟩ := DataW.trod_int Tryz.underlying3 t10
    obtain ⟨a11, s11, _, _⟩ := DataW.trod_int Tryz.underlying3 t11
    have e13 := len1 q13
    have e14 := len1 q14
    have e15 := len1 q15
    have e16 := len1 q16
    simp at q0 q1 q2 q3 q4 q5 q6 q7 q8 q9 q10 q11 q12 s0 s1 s2 s3 s4 s5 s6 s7 s8 s9 s10 s11
    subst q0 q1 q2 q3 q4 q5 q6 q7 q8 q9 q10 q11 q12 e13 e14 e15 e16 s0 s1 s2 s3 s4 s5 s6 s7 s8 s9 s10 s11
    exact ⟨⟨k0, k1, k2, k3, k4, k5, k6, k7, k8, k9, k10, k11, k12, l1, l2, l3, l4, a0, a1, a2, a3, a4, a5, a6, a7, a8, a9, a10, a11⟩, ⟨A1, A2, A3, A4, n1, d1, n2, d2, n3, d3, n4, d4⟩, rfl, ⟨z1, rds_of1 r1, z2, rdw_of r2, z3, r3, z4, r4⟩, ⟨f1, f2, f3, f4, by rw [z1]; exact m1, by rw [z2]; exact m2, by rw [z3]; exact m3, by rw [z4]; exact m4⟩⟩
end
end Go.Proofs.YtpjleeeligahaaaGreatDoor

namespace Go.Proofs.YtpjleeeligahaaaGreatDoor
open Go.RowKit

def snapB (x : Lt) : Bool := decide (0 < x.cs.length) || !zeroLa x
def outL (s e : Int) (y : Ln) : Bool := decide (y.pl < s) || decide (e ≤ y.pl)
def spansB (x : Lt) : Bool := decide (x.sr ≤ x.en) && !(x.ls.any (outL x.sr x.en))
def outN (v lo hi : Int) : Bool := decide (v < lo) || decide (hi < v)
/-- Its numbers, each with where it may be. -/
def numL (x : Lt) : List (Int × Int × Int) := [(x.fr, 0, 11), (x.tt, 0, 11), (x.li, 1, 1073741824), (x.tu, 1, 1048576), (x.pr, 0, 4096), (x.lo, 0, 4096), (x.fi, 0, 1099511627776), (x.st, 0, 1099511627776), (x.ta, 0, 1099511627776), (x.sr, 0, 4096), (x.en, 0, 4096)]
def outsB (x : Lt) : Bool := (numL x).any fun q => outN q.1 q.2.1 q.2.2
def someB (x : Lt) : Bool := (numL x).any fun q => q.1 != 0
noncomputable def listsB (x : Lt) : Bool := goodR (dL x.re) && (decide (x.ws.length ≤ 512) && goodAll x.ws) && goodLns x.ls && goodCls x.cs && goodLa x.la
def blankB (x : Lt) : Bool := !someB x && !x.sn && decide (x.re.length = 0) && decide (x.ws.length = 0) && decide (x.ls.length = 0) && !snapB x
/-- A letter without what every one has, and without what its kind uses. -/
def unU (x : Lt) : Lt :=
  let y : Lt := { x with fr := 0, tt := 0, li := 0, tu := 0 }
  if x.k = 1 then { y with pr := 0, re := [] }
  else if x.k = 2 then { y with pr := 0, lo := 0, fi := 0, st := 0, ws := [] }
  else if x.k = 3 then { y with st := 0, ta := 0, sr := 0, en := 0, ls := [], ws := [], sn := false, cs := [], a0 := 0, a1 := 0, a2 := 0, a3 := 0, a4 := 0, a5 := 0, a6 := 0, a7 := 0, a8 := 0, a9 := 0, a10 := 0, a11 := 0 }
  else y
noncomputable def codeB (x : Lt) : Bool :=
  (x.k != 3 || (spansB x && (x.sn || !snapB x))) && decide (1 ≤ x.k ∧ x.k ≤ 4) && !(x.fr == x.tt) && decide (x.lo ≤ x.pr) && !outsB x && listsB x && blankB (unU x)
theorem la_zero0 : decide (laL 0 0 0 0 0 0 0 0 0 0 0 0 = [0, 0, 0, 0, 0, 0, 0, 0, 0, 0, 0, 0]) = true := by decide
theorem inB_iff {n a b : Int} : inB n a b = true ↔ a ≤ n ∧ n ≤ b := decide_eq_true_iff
theorem outN_iff {v a b : Int} : outN v a b = false ↔ a ≤ v ∧ v ≤ b := by unfold outN; simp
theorem lines_out (x : Lt) : linesB x = !(x.ls.any (outL x.sr x.en)) := by
  unfold linesB
  rw [List.not_any_eq_all_not]
  congr 1
  funext y
  unfold inB outL
  rw [Bool.eq_iff_iff]
  simp
  omega
theorem outs_iff (x : Lt) : outsB x = false ↔ (0 ≤ x.fr ∧ x.fr ≤ 11) ∧ (0 ≤ x.tt ∧ x.tt ≤ 11) ∧ (1 ≤ x.li ∧ x.li ≤ 1073741824) ∧ (1 ≤ x.tu ∧ x.tu ≤ 1048576) ∧ (0 ≤ x.pr ∧ x.pr ≤ 4096) ∧ (0 ≤ x.lo ∧ x.lo ≤ 4096) ∧ (0 ≤ x.fi ∧ x.fi ≤ 1099511627776) ∧ (0 ≤ x.st ∧ x.st ≤ 1099511627776) ∧ (0 ≤ x.ta ∧ x.ta ≤ 1099511627776) ∧ (0 ≤ x.sr ∧ x.sr ≤ 4096) ∧ (0 ≤ x.en ∧ x.en ≤ 4096) := by
  unfold outsB numL
  simp only [List.any_cons, List.any_nil, Bool.or_eq_false_iff, outN_iff, and_true]
theorem some_iff (x : Lt) : someB x = false ↔ x.fr = 0 ∧ x.tt = 0 ∧ x.li = 0 ∧ x.tu = 0 ∧ x.pr = 0 ∧ x.lo = 0 ∧ x.fi = 0 ∧ x.st = 0 ∧ x.ta = 0 ∧ x.sr = 0 ∧ x.en = 0 := by
  unfold someB numL
  simp only [List.any_cons, List.any_nil, Bool.or_eq_false_iff, bne_eq_false_iff_eq, and_true]
theorem head_iff (x : Lt) : headB x = true ↔ (1 ≤ x.k ∧ x.k ≤ 4) ∧ (0 ≤ x.fr ∧ x.fr ≤ 11) ∧ (0 ≤ x.tt ∧ x.tt ≤ 11) ∧ ¬ x.fr = x.tt ∧ (1 ≤ x.li ∧ x.li ≤ 1073741824) ∧ (1 ≤ x.tu ∧ x.tu ≤ 1048576) := by
  unfold headB
  simp only [Bool.and_eq_true, inB_iff, Bool.not_eq_true', beq_eq_false_iff_ne, ne_eq, and_assoc]
theorem nums_iff (x : Lt) : numsB x = true ↔ (0 ≤ x.pr ∧ x.pr ≤ 4096) ∧ (0 ≤ x.lo ∧ x.lo ≤ x.pr) ∧ (0 ≤ x.en ∧ x.en ≤ 4096) ∧ (0 ≤ x.sr ∧ x.sr ≤ x.en) ∧ (0 ≤ x.st ∧ x.st ≤ 1099511627776) ∧ (0 ≤ x.ta ∧ x.ta ≤ 1099511627776) ∧ (0 ≤ x.fi ∧ x.fi ≤ 1099511627776) := by
  unfold numsB
  simp only [Bool.and_eq_true, inB_iff, and_assoc]
theorem use_iff (x : Lt) : badUse x = false ↔ (2 < x.k → x.pr = 0) ∧ (x.k ≠ 2 → x.lo = 0 ∧ x.fi = 0) ∧ (x.k ≠ 2 ∧ x.k ≠ 3 → x.st = 0 ∧ x.ws.length = 0) ∧ (x.k ≠ 3 → x.ta = 0 ∧ x.sr = 0 ∧ x.en = 0 ∧ x.ls.length = 0 ∧ x.sn = false) ∧ (x.k ≠ 1 → x.re.length = 0) ∧ (x.sn = false → x.cs.length = 0 ∧ zeroLa x = true) := by
  unfold badUse
  simp only [Bool.or_eq_false_iff, Bool.and_eq_false_imp, decide_eq_true_iff, bne_eq_false_iff_eq, decide_eq_false_iff_not, Bool.and_eq_true, bne_iff_ne, Bool.not_eq_true', Bool.not_eq_false', Nat.not_lt, Nat.le_zero, and_assoc]
theorem snap_iff (x : Lt) : snapB x = false ↔ x.cs.length = 0 ∧ zeroLa x = true := by
  unfold snapB
  simp only [Bool.or_eq_false_iff, decide_eq_false_iff_not, Nat.not_lt, Nat.le_zero, Bool.not_eq_false']
theorem blank_iff (x : Lt) : blankB x = true ↔ (x.fr = 0 ∧ x.tt = 0 ∧ x.li = 0 ∧ x.tu = 0 ∧ x.pr = 0 ∧ x.lo = 0 ∧ x.fi = 0 ∧ x.st = 0 ∧ x.ta = 0 ∧ x.sr = 0 ∧ x.en = 0) ∧ x.sn = false ∧ x.re.length = 0 ∧ x.ws.length = 0 ∧ x.ls.length = 0 ∧ x.cs.length = 0 ∧ zeroLa x = true := by
  unfold blankB
  simp only [Bool.and_eq_true, Bool.not_eq_true', some_iff, snap_iff, decide_eq_true_iff, and_assoc]
theorem tail_lists (x : Lt) : tailB x = listsB x := by
  unfold tailB listsB
  rw [Bool.eq_iff_iff]
  simp only [Bool.and_eq_true]
  constructor
  · rintro ⟨⟨⟨⟨⟨h1, h2⟩, h3⟩, h4⟩, h5⟩, h6⟩
    exact ⟨⟨⟨⟨h3, h1, h2⟩, h4⟩, h5⟩, h6⟩
  · rintro ⟨⟨⟨⟨h3, h1, h2⟩, h4⟩, h5⟩, h6⟩
    exact ⟨⟨⟨⟨⟨h1, h2⟩, h3⟩, h4⟩, h5⟩, h6⟩
theorem lines_none {x : Lt} (h : x.ls.length = 0) : linesB x = true := by
  unfold linesB
  rw [List.eq_nil_of_length_eq_zero h]
  rfl
theorem code_is (x : Lt) : codeB x = goodLt x := by
  unfold codeB goodLt
  rw [← tail_lists]
  cases tailB x with
  | false => simp
  | true =>
    rw [Bool.eq_iff_iff]
    simp only [Bool.and_eq_true, Bool.not_eq_true', head_iff, use_iff, nums_iff, outs_iff, blank_iff, decide_eq_true_iff, and_true, Bool.or_eq_true, bne_iff_ne, ne_eq, beq_eq_false_iff_ne]
    by_cases k1 : x.k = 1
    · have hz : zeroLa (unU x) = zeroLa x := by unfold unU; rw [if_pos k1]; rfl
      rw [hz]
      have hl := lines_none (x := x)
      rw [show unU x = _ from if_pos k1]
      simp only [k1]
      generalize linesB x = a at hl ⊢
      generalize zeroLa x = z
      generalize x.cs.length = n4
      generalize x.ls.length = n3 at hl ⊢
      generalize x.ws.length = n2
      generalize x.re.length = n1
      generalize x.sn = s
      cases s <;> cases z <;> cases a <;> (try simp at hl) <;> (try simp) <;> (try omega)
    · by_cases k2 : x.k = 2
      · have hz : zeroLa (unU x) = zeroLa x := by unfold unU; rw [if_neg k1, if_pos k2]; rfl
        rw [hz]
        have hl := lines_none (x := x)
        rw [show unU x = _ from (if_neg k1).trans (if_pos k2)]
        simp only [k2]
        generalize linesB x = a at hl ⊢
        generalize zeroLa x = z
        generalize x.cs.length = n4
        generalize x.ls.length = n3 at hl ⊢
        generalize x.ws.length = n2
        generalize x.re.length = n1
        generalize x.sn = s
        cases s <;> cases z <;> cases a <;> (try simp at hl) <;> (try simp) <;> (try omega)
      · by_cases k3 : x.k = 3
        · have hz : zeroLa (unU x) = true := by unfold unU; rw [if_neg k1, if_neg k2, if_pos k3]; exact la_zero0
          rw [hz]
          have hs : spansB x = true ↔ x.sr ≤ x.en ∧ linesB x = true := by unfold spansB; rw [lines_out, Bool.and_eq_true, decide_eq_true_iff]
          rw [hs, snap_iff]
          rw [show unU x = _ from (if_neg k1).trans ((if_neg k2).trans (if_pos k3))]
          simp only [k3]
          generalize linesB x = a
          generalize zeroLa x = z
          generalize x.cs.length = n4
          generalize x.ls.length = n3
          generalize x.ws.length = n2
          generalize x.re.length = n1
          generalize x.sn = s
          cases s <;> cases z <;> cases a <;> (try simp at hl) <;> (try simp) <;> (try omega)
        · have hz : zeroLa (unU x) = zeroLa x := by unfold unU; rw [if_neg k1, if_neg k2, if_neg k3]; rfl
          rw [hz]
          have hl := lines_none (x := x)
          rw [show unU x = _ from (if_neg k1).trans ((if_neg k2).trans (if_neg k3))]
          dsimp only
          generalize linesB x = a at hl ⊢
          generalize zeroLa x = z
          generalize x.cs.length = n4
          generalize x.ls.length = n3 at hl ⊢
          generalize x.ws.length = n2
          generalize x.re.length = n1
          generalize x.sn = s
          cases s <;> cases z <;> cases a <;> (try simp at hl) <;> (try simp) <;> (try omega)
end Go.Proofs.YtpjleeeligahaaaGreatDoor

namespace Go.Proofs.YtpjleeeligahaaaGreatDoor
open Go.RowKit

/-- A letter's number: which cell it points to, and from where to where it may be. -/
structure Nm where
  (b j : Nat)
  (lo hi : Int)
abbrev Nm.cells (x : Nm) : Array Value := #[.pointer (some ⟨x.b, x.j, none⟩), .int .i64 x.lo, .int .i64 x.hi]
theorem rdw_x {B : Nat} {W : World} {A : Option Addr} {l : List Wr} (h : RdW B W A l) : RdX 10 B W A (l.map Wr.cells) := by
  intro k cs hk
  obtain ⟨x, hx, rfl⟩ : ∃ x, l[k]? = some x ∧ x.cells = cs := by simpa using hk
  exact h k x hx
theorem mapx_get {α : Type} {f : α → Array Value} {l : List α} {k : Nat} {x : α} (h : l[k]? = some x) : (l.map f)[k]? = some (f x) := by simp [h]
/-- A function value that tells of each of these whether p holds, in whatever world that keeps w. -/
def PredX {α : Type} (cells : α → Array Value) (g : Nat) (lb : Array Value) (p : α → Bool) (l : List α) (w : World) : Prop :=
  ∀ x, x ∈ l → ∀ W, Below w.heap.size w W → Calls Tryz.prog g (#[.agg (cells x)] ++ lb) W fun e W' => e = .returned (.bool (p x)) ∧ Below W.heap.size W W'
theorem take_add {α : Type} {p : α → Bool} {l : List α} {k : Nat} {x : α} (h : ∀ y, y ∈ l.take k → p y = false) (hx : l[k]? = some x) (hb : p x = false) : ∀ y, y ∈ l.take (k + 1) → p y = false := fun y hy => by
  rw [List.take_add_one, hx] at hy
  rcases List.mem_append.1 hy with h' | h'
  · exact h y h'
  · have e : y = x := by simpa using h'
    rw [e]
    exact hb
theorem any_not {α : Type} {p : α → Bool} {l : List α} {n : Nat} (h : ∀ y, y ∈ l.take n → p y = false) (hn : l.length ≤ n) : l.any p = false := by
  rw [List.any_eq_false]
  intro x hx
  rw [h x (by rw [List.take_of_length_le hn]; exact hx)]
  exact Bool.false_ne_true

set_option maxRecDepth 100000 in
set_option maxHeartbeats 2000000 in
theorem idxN_any (g : Nat) (lb : Array Value) (eg : ∀ args w, (callFunc g args).run Tryz.prog w = .ok (.enter g args) w) (p : Nm → Bool) (A : Option Addr) (n c : Nat) (l : List Nm) (w : World) (hn : l.length = n) (hr : RdX 3 w.heap.size w A (l.map Nm.cells)) (hm : n ≤ maxLen) (hp : PredX Nm.cells g lb p l w) :
    Calls Tryz.prog 132 #[.slice A n c, .func (.func g) #[] lb] w fun e w' => (∃ z : Int, e = .returned (.int .i64 z) ∧ decide (0 ≤ z) = l.any p) ∧ Below w.heap.size w w' := by
  unfold maxLen at hm
  have HN := Lib.hid hn
  have HP := Lib.hid hp
  have HR := Lib.hid (fun W (h : Below w.heap.size w W) => hr.keep (W' := W) h (Nat.le_refl _))
  clear hn hp hr
  go_enter Tryz.func132, Tryz.ntmps132
  go_wp2_with fail
  go_loopw [5, 8] (fun _ i wr => ∃ k : Nat, k ≤ n ∧ i = .int .i64 k ∧ Hid (∀ x, x ∈ l.take k → p x = false) ∧ Below w.heap.size w wr) (fun _ i _ => n - (intOf i).toNat)
  case atStart => exact ⟨0, Nat.zero_le _, rfl, fun x hx => by simp at hx, Below.refl _ _⟩
  case round =>
    obtain ⟨k, hk, rfl, hA, hB⟩ := hrel
    by_cases hlt : k < n
    · obtain ⟨x, hx⟩ : ∃ x, l[k]? = some x := ⟨_, List.getElem?_eq_getElem (show k < l.length by have := HN.out; omega)⟩
      obtain ⟨ad, rfl, _, hc⟩ := HR.out wr hB k _ (mapx_get hx)
      have i1 : (0 : Int) ≤ (k : Int) := by omega
      have i2 : (k : Int) < (n : Int) := by omega
      have HX := Lib.hid hx
      have HG := Lib.hid (HP.out x (List.mem_of_getElem? hx))
      clear hx
      have q0 : wr.cell? (ad.add (k * 3)) = some (.pointer (some ⟨x.b, x.j, none⟩)) := (celX hc).1 _ rfl
      have q1 : wr.cell? ⟨(ad.add (k * 3)).block, (ad.add (k * 3)).off + 1, none⟩ = some (.int .i64 x.lo) := (celX hc).2 0 _ rfl
      have q2 : wr.cell? ⟨(ad.add (k * 3)).block, (ad.add (k * 3)).off + 2, none⟩ = some (.int .i64 x.hi) := (celX hc).2 1 _ rfl
      clear hc
      cases hb : p x with
      | true =>
        rw [hb] at HG
        have R : Hid (decide (0 ≤ (k : Int)) = l.any p) := by
          show _ = _
          rw [decide_eq_true i1]
          exact (List.any_eq_true.2 ⟨x, List.mem_of_getElem? HX.out, hb⟩).symm
        clear hb
        go_wp2_with (go_at_fn g; refine (HG.out wr hB).mono ?_; rintro e w2 ⟨rfl, hb2⟩)
        go_ret
        exact ⟨⟨_, rfl, R.out⟩, bt hB hb2⟩
      | false =>
        rw [hb] at HG
        have HA2 := Lib.hid (take_add hA.out HX.out hb)
        clear hb hA
        go_wp2_with (go_at_fn g; refine (HG.out wr hB).mono ?_; rintro e w2 ⟨rfl, hb2⟩)
        go_roundw
        case rel => exact ⟨k + 1, by omega, by go_num, HA2, bt hB hb2⟩
        case measure => simp [intOf]; omega
    · have hq : ¬ (k : Int) < (n : Int) := by omega
      have R : Hid (decide ((0 : Int) ≤ -1) = l.any p) := by
        show _ = _
        rw [any_not hA.out (by have := HN.out; omega)]
        rfl
      clear hA
      go_wp2_with fail
      go_ret
      exact ⟨⟨_, rfl, R.out⟩, hB⟩
set_option maxRecDepth 100000 in
theorem contN_any (g : Nat) (lb : Array Value) (eg : ∀ args w, (callFunc g args).run Tryz.prog w = .ok (.enter g args) w) (p : Nm → Bool) (A : Option Addr) (n c : Nat) (l : List Nm) (w : World) (hn : l.length = n) (hr : RdX 3 w.heap.size w A (l.map Nm.cells)) (hm : n ≤ maxLen) (hp : PredX Nm.cells g lb p l w) :
    Calls Tryz.prog 90 #[.slice A n c, .func (.func g) #[] lb] w fun e w' => e = .returned (.bool (l.any p)) ∧ Below w.heap.size w w' := by
  have HI := Lib.hid (idxN_any g lb eg p A n c l w hn hr hm hp)
  generalize l.any p = v at HI ⊢
  clear hn hr hm hp
  go_enter Tryz.func90, Tryz.ntmps90
  go_wp2_with fail
  refine HI.out.mono ?_
  rintro e w2 ⟨⟨z, rfl, hz⟩, hb2⟩
  have HZ := Lib.hid hz
  clear hz
  go_wp2_with fail
  go_ret
  exact ⟨ret_bool HZ.out, hb2⟩

set_option maxRecDepth 100000 in
set_option maxHeartbeats 2000000 in
theorem idxW_any (g : Nat) (lb : Array Value) (eg : ∀ args w, (callFunc g args).run Tryz.prog w = .ok (.enter g args) w) (p : Wr → Bool) (A : Option Addr) (n c : Nat) (l : List Wr) (w : World) (hn : l.length = n) (hr : RdX 10 w.heap.size w A (l.map Wr.cells)) (hm : n ≤ maxLen) (hp : PredX Wr.cells g lb p l w) :
    Calls Tryz.prog 165 #[.slice A n c, .func (.func g) #[] lb] w fun e w' => (∃ z : Int, e = .returned (.int .i64 z) ∧ decide (0 ≤ z) = l.any p) ∧ Below w.heap.size w w' := by
  unfold maxLen at hm
  have HN := Lib.hid hn
  have HP := Lib.hid hp
  have HR := Lib.hid (fun W (h : Below w.heap.size w W) => hr.keep (W' := W) h (Nat.le_refl _))
  clear hn hp hr
  go_enter Tryz.func165, Tryz.ntmps165
  go_wp2_with fail
  go_loopw [5, 8] (fun _ i wr => ∃ k : Nat, k ≤ n ∧ i = .int .i64 k ∧ Hid (∀ x, x ∈ l.take k → p x = false) ∧ Below w.heap.size w wr) (fun _ i _ => n - (intOf i).toNat)
  case atStart => exact ⟨0, Nat.zero_le _, rfl, fun x hx => by simp at hx, Below.refl _ _⟩
  case round =>
    obtain ⟨k, hk, rfl, hA, hB⟩ := hrel
    by_cases hlt : k < n
    · obtain ⟨x, hx⟩ : ∃ x, l[k]? = some x := ⟨_, List.getElem?_eq_getElem (show k < l.length by have := HN.out; omega)⟩
      obtain ⟨ad, rfl, _, hc⟩ := HR.out wr hB k _ (mapx_get hx)
      have i1 : (0 : Int) ≤ (k : Int) := by omega
      have i2 : (k : Int) < (n : Int) := by omega
      have HX := Lib.hid hx
      have HG := Lib.hid (HP.out x (List.mem_of_getElem? hx))
      clear hx
      have q0 : wr.cell? (ad.add (k * 10)) = some (.int .i64 x.dev) := (celX hc).1 _ rfl
      have q1 : wr.cell? ⟨(ad.add (k * 10)).block, (ad.add (k * 10)).off + 1, none⟩ = some (.int .i64 x.seq) := (celX hc).2 0 _ rfl
      have q2 : wr.cell? ⟨(ad.add (k * 10)).block, (ad.add (k * 10)).off + 2, none⟩ = some (.int .i64 x.K) := (celX hc).2 1 _ rfl
      have q3 : wr.cell? ⟨(ad.add (k * 10)).block, (ad.add (k * 10)).off + 3, none⟩ = some (.string x.ky) := (celX hc).2 2 _ rfl
      have q4 : wr.cell? ⟨(ad.add (k * 10)).block, (ad.add (k * 10)).off + 4, none⟩ = some (.int .i64 x.ka) := (celX hc).2 3 _ rfl
      have q5 : wr.cell? ⟨(ad.add (k * 10)).block, (ad.add (k * 10)).off + 5, none⟩ = some (.int .i64 x.na) := (celX hc).2 4 _ rfl
      have q6 : wr.cell? ⟨(ad.add (k * 10)).block, (ad.add (k * 10)).off + 6, none⟩ = some (.string x.sa) := (celX hc).2 5 _ rfl
      have q7 : wr.cell? ⟨(ad.add (k * 10)).block, (ad.add (k * 10)).off + 7, none⟩ = some (.int .i64 x.kb) := (celX hc).2 6 _ rfl
      have q8 : wr.cell? ⟨(ad.add (k * 10)).block, (ad.add (k * 10)).off + 8, none⟩ = some (.int .i64 x.nb) := (celX hc).2 7 _ rfl
      have q9 : wr.cell? ⟨(ad.add (k * 10)).block, (ad.add (k * 10)).off + 9, none⟩ = some (.string x.sb) := (celX hc).2 8 _ rfl
      clear hc
      cases hb : p x with
      | true =>
        rw [hb] at HG
        have R : Hid (decide (0 ≤ (k : Int)) = l.any p) := by
          show _ = _
          rw [decide_eq_true i1]
          exact (List.any_eq_true.2 ⟨x, List.mem_of_getElem? HX.out, hb⟩).symm
        clear hb
        go_wp2_with (go_at_fn g; refine (HG.out wr hB).mono ?_; rintro e w2 ⟨rfl, hb2⟩)
        go_ret
        exact ⟨⟨_, rfl, R.out⟩, bt hB hb2⟩
      | false =>
        rw [hb] at HG
        have HA2 := Lib.hid (take_add hA.out HX.out hb)
        clear hb hA
        go_wp2_with (go_at_fn g; refine (HG.out wr hB).mono ?_; rintro e w2 ⟨rfl, hb2⟩)
        go_roundw
        case rel => exact ⟨k + 1, by omega, by go_num, HA2, bt hB hb2⟩
        case measure => simp [intOf]; omega
    · have hq : ¬ (k : Int) < (n : Int) := by omega
      have R : Hid (decide ((0 : Int) ≤ -1) = l.any p) := by
        show _ = _
        rw [any_not hA.out (by have := HN.out; omega)]
        rfl
      clear hA
      go_wp2_with fail
      go_ret
      exact ⟨⟨_, rfl, R.out⟩, hB⟩
set_option maxRecDepth 100000 in
theorem contW_any (g : Nat) (lb : Array Value) (eg : ∀ args w, (callFunc g args).run Tryz.prog w = .ok (.enter g args) w) (p : Wr → Bool) (A : Option Addr) (n c : Nat) (l : List Wr) (w : World) (hn : l.length = n) (hr : RdX 10 w.heap.size w A (l.map Wr.cells)) (hm : n ≤ maxLen) (hp : PredX Wr.cells g lb p l w) :
    Calls Tryz.prog 137 #[.slice A n c, .func (.func g) #[] lb] w fun e w' => e = .returned (.bool (l.any p)) ∧ Below w.heap.size w w' := by
  have HI := Lib.hid (idxW_any g lb eg p A n c l w hn hr hm hp)
  generalize l.any p = v at HI ⊢
  clear hn hr hm hp
  go_enter Tryz.func137, Tryz.ntmps137
  go_wp2_with fail
  refine HI.out.mono ?_
  rintro e w2 ⟨⟨z, rfl, hz⟩, hb2⟩
  have HZ := Lib.hid hz
  clear hz
  go_wp2_with fail
  go_ret
  exact ⟨ret_bool HZ.out, hb2⟩

set_option maxRecDepth 100000 in
set_option maxHeartbeats 2000000 in
theorem idxQ_any (g : Nat) (lb : Array Value) (eg : ∀ args w, (callFunc g args).run Tryz.prog w = .ok (.enter g args) w) (p : Ln → Bool) (A : Option Addr) (n c : Nat) (l : List Ln) (w : World) (hn : l.length = n) (hr : RdX 11 w.heap.size w A (l.map Ln.cells)) (hm : n ≤ maxLen) (hp : PredX Ln.cells g lb p l w) :
    Calls Tryz.prog 131 #[.slice A n c, .func (.func g) #[] lb] w fun e w' => (∃ z : Int, e = .returned (.int .i64 z) ∧ decide (0 ≤ z) = l.any p) ∧ Below w.heap.size w w' := by
  unfold maxLen at hm
  have HN := Lib.hid hn
  have HP := Lib.hid hp
  have HR := Lib.hid (fun W (h : Below w.heap.size w W) => hr.keep (W' := W) h (Nat.le_refl _))
  clear hn hp hr
  go_enter Tryz.func131, Tryz.ntmps131
  go_wp2_with fail
  go_loopw [5, 8] (fun _ i wr => ∃ k : Nat, k ≤ n ∧ i = .int .i64 k ∧ Hid (∀ x, x ∈ l.take k → p x = false) ∧ Below w.heap.size w wr) (fun _ i _ => n - (intOf i).toNat)
  case atStart => exact ⟨0, Nat.zero_le _, rfl, fun x hx => by simp at hx, Below.refl _ _⟩
  case round =>
    obtain ⟨k, hk, rfl, hA, hB⟩ := hrel
    by_cases hlt : k < n
    · obtain ⟨x, hx⟩ : ∃ x, l[k]? = some x := ⟨_, List.getElem?_eq_getElem (show k < l.length by have := HN.out; omega)⟩
      obtain ⟨ad, rfl, _, hc⟩ := HR.out wr hB k _ (mapx_get hx)
      have i1 : (0 : Int) ≤ (k : Int) := by omega
      have i2 : (k : Int) < (n : Int) := by omega
      have HX := Lib.hid hx
      have HG := Lib.hid (HP.out x (List.mem_of_getElem? hx))
      clear hx
      have q0 : wr.cell? (ad.add (k * 11)) = some (.int .i64 x.pl) := (celX hc).1 _ rfl
      have q1 : wr.cell? ⟨(ad.add (k * 11)).block, (ad.add (k * 11)).off + 1, none⟩ = some (.int .i64 x.w.dev) := (celX hc).2 0 _ rfl
      have q2 : wr.cell? ⟨(ad.add (k * 11)).block, (ad.add (k * 11)).off + 2, none⟩ = some (.int .i64 x.w.seq) := (celX hc).2 1 _ rfl
      have q3 : wr.cell? ⟨(ad.add (k * 11)).block, (ad.add (k * 11)).off + 3, none⟩ = some (.int .i64 x.w.K) := (celX hc).2 2 _ rfl
      have q4 : wr.cell? ⟨(ad.add (k * 11)).block, (ad.add (k * 11)).off + 4, none⟩ = some (.string x.w.ky) := (celX hc).2 3 _ rfl
      have q5 : wr.cell? ⟨(ad.add (k * 11)).block, (ad.add (k * 11)).off + 5, none⟩ = some (.int .i64 x.w.ka) := (celX hc).2 4 _ rfl
      have q6 : wr.cell? ⟨(ad.add (k * 11)).block, (ad.add (k * 11)).off + 6, none⟩ = some (.int .i64 x.w.na) := (celX hc).2 5 _ rfl
      have q7 : wr.cell? ⟨(ad.add (k * 11)).block, (ad.add (k * 11)).off + 7, none⟩ = some (.string x.w.sa) := (celX hc).2 6 _ rfl
      have q8 : wr.cell? ⟨(ad.add (k * 11)).block, (ad.add (k * 11)).off + 8, none⟩ = some (.int .i64 x.w.kb) := (celX hc).2 7 _ rfl
      have q9 : wr.cell? ⟨(ad.add (k * 11)).block, (ad.add (k * 11)).off + 9, none⟩ = some (.int .i64 x.w.nb) := (celX hc).2 8 _ rfl
      have q10 : wr.cell? ⟨(ad.add (k * 11)).block, (ad.add (k * 11)).off + 10, none⟩ = some (.string x.w.sb) := (celX hc).2 9 _ rfl
      clear hc
      cases hb : p x with
      | true =>
        rw [hb] at HG
        have R : Hid (decide (0 ≤ (k : Int)) = l.any p) := by
          show _ = _
          rw [decide_eq_true i1]
          exact (List.any_eq_true.2 ⟨x, List.mem_of_getElem? HX.out, hb⟩).symm
        clear hb
        go_wp2_with (go_at_fn g; refine (HG.out wr hB).mono ?_; rintro e w2 ⟨rfl, hb2⟩)
        go_ret
        exact ⟨⟨_, rfl, R.out⟩, bt hB hb2⟩
      | false =>
        rw [hb] at HG
        have HA2 := Lib.hid (take_add hA.out HX.out hb)
        clear hb hA
        go_wp2_with (go_at_fn g; refine (HG.out wr hB).mono ?_; rintro e w2 ⟨rfl, hb2⟩)
        go_roundw
        case rel => exact ⟨k + 1, by omega, by go_num, HA2, bt hB hb2⟩
        case measure => simp [intOf]; omega
    · have hq : ¬ (k : Int) < (n : Int) := by omega
      have R : Hid (decide ((0 : Int) ≤ -1) = l.any p) := by
        show _ = _
        rw [any_not hA.out (by have := HN.out; omega)]
        rfl
      clear hA
      go_wp2_with fail
      go_ret
      exact ⟨⟨_, rfl, R.out⟩, hB⟩
set_option maxRecDepth 100000 in
theorem contQ_any (g : Nat) (lb : Array Value) (eg : ∀ args w, (callFunc g args).run Tryz.prog w = .ok (.enter g args) w) (p : Ln → Bool) (A : Option Addr) (n c : Nat) (l : List Ln) (w : World) (hn : l.length = n) (hr : RdX 11 w.heap.size w A (l.map Ln.cells)) (hm : n ≤ maxLen) (hp : PredX Ln.cells g lb p l w) :
    Calls Tryz.prog 88 #[.slice A n c, .func (.func g) #[] lb] w fun e w' => e = .returned (.bool (l.any p)) ∧ Below w.heap.size w w' := by
  have HI := Lib.hid (idxQ_any g lb eg p A n c l w hn hr hm hp)
  generalize l.any p = v at HI ⊢
  clear hn hr hm hp
  go_enter Tryz.func88, Tryz.ntmps88
  go_wp2_with fail
  refine HI.out.mono ?_
  rintro e w2 ⟨⟨z, rfl, hz⟩, hb2⟩
  have HZ := Lib.hid hz
  clear hz
  go_wp2_with fail
  go_ret
  exact ⟨ret_bool HZ.out, hb2⟩
end Go.Proofs.YtpjleeeligahaaaGreatDoor

namespace Go.Proofs.YtpjleeeligahaaaGreatDoor
open Go.RowKit

theorem if_ok {p : Prop} [Decidable p] {W : World} {b : Bool} {r : Result Bool} (h : r = .ok b W) : (if p then r else .ok false W) = .ok (decide p && b) W := by
  by_cases hp : p <;> simp [hp, h]
theorem if_ok1 {p : Prop} [Decidable p] {W : World} : (if p then Result.ok true W else .ok false W) = .ok (decide p) W := by
  by_cases hp : p <;> simp [hp]
theorem int_infoT : (Tryz.prog.info? 3).map (fun i => (i.zero, i.size, i.bytes)) = some (some (.int .i64 0), 1, 8) := by kernel_rfl
theorem cells_intT : Tryz.prog.cellsOf 3 = 1 := by kernel_rfl
theorem la_eqI (v0 v1 v2 v3 v4 v5 v6 v7 v8 v9 v10 v11 u0 u1 u2 u3 u4 u5 u6 u7 u8 u9 u10 u11 : Int) (W : World) : (Op.equalIn 10000 55 (.agg (laI v0 v1 v2 v3 v4 v5 v6 v7 v8 v9 v10 v11)) (.agg (laI u0 u1 u2 u3 u4 u5 u6 u7 u8 u9 u10 u11))).run Tryz.prog W = .ok (decide (laL v0 v1 v2 v3 v4 v5 v6 v7 v8 v9 v10 v11 = laL u0 u1 u2 u3 u4 u5 u6 u7 u8 u9 u10 u11)) W := by
  obtain ⟨i0, hi0, _, _, _⟩ := info_parts int_infoT
  rw [run_equalIn_array W 9999 _ _ Tryz.underlying55 hi0, cells_intT, show List.range 12 = [0, 1, 2, 3, 4, 5, 6, 7, 8, 9, 10, 11] from rfl]
  simp only [Op.eqItems]
  go_simp
  iterate 11 (refine if_ok ?_)
  exact if_ok1
theorem la_neqA (v0 v1 v2 v3 v4 v5 v6 v7 v8 v9 v10 v11 u0 u1 u2 u3 u4 u5 u6 u7 u8 u9 u10 u11 : Int) (W : World) : (binOp .neq 55 (.agg (laI v0 v1 v2 v3 v4 v5 v6 v7 v8 v9 v10 v11)) (.agg (laI u0 u1 u2 u3 u4 u5 u6 u7 u8 u9 u10 u11))).run Tryz.prog W = .ok (.bool (!decide (laL v0 v1 v2 v3 v4 v5 v6 v7 v8 v9 v10 v11 = laL u0 u1 u2 u3 u4 u5 u6 u7 u8 u9 u10 u11))) W := by
  rw [run_neq_struct, la_eqI]
  rfl
theorem la_eqlA (v0 v1 v2 v3 v4 v5 v6 v7 v8 v9 v10 v11 u0 u1 u2 u3 u4 u5 u6 u7 u8 u9 u10 u11 : Int) (W : World) : (binOp .eql 55 (.agg (laI v0 v1 v2 v3 v4 v5 v6 v7 v8 v9 v10 v11)) (.agg (laI u0 u1 u2 u3 u4 u5 u6 u7 u8 u9 u10 u11))).run Tryz.prog W = .ok (.bool (decide (laL v0 v1 v2 v3 v4 v5 v6 v7 v8 v9 v10 v11 = laL u0 u1 u2 u3 u4 u5 u6 u7 u8 u9 u10 u11))) W := by
  rw [run_eql_struct, la_eqI]
  rfl
theorem la_eqIL (v0 v1 v2 v3 v4 v5 v6 v7 v8 v9 v10 v11 u0 u1 u2 u3 u4 u5 u6 u7 u8 u9 u10 u11 : Int) (W : World) : (Op.equalIn 10000 56 (.agg (laI v0 v1 v2 v3 v4 v5 v6 v7 v8 v9 v10 v11)) (.agg (laI u0 u1 u2 u3 u4 u5 u6 u7 u8 u9 u10 u11))).run Tryz.prog W = .ok (decide (laL v0 v1 v2 v3 v4 v5 v6 v7 v8 v9 v10 v11 = laL u0 u1 u2 u3 u4 u5 u6 u7 u8 u9 u10 u11)) W := by
  obtain ⟨i0, hi0, _, _, _⟩ := info_parts int_infoT
  rw [run_equalIn_array W 9999 _ _ Tryz.underlying56 hi0, cells_intT, show List.range 12 = [0, 1, 2, 3, 4, 5, 6, 7, 8, 9, 10, 11] from rfl]
  simp only [Op.eqItems]
  go_simp
  iterate 11 (refine if_ok ?_)
  exact if_ok1
theorem la_neqAL (v0 v1 v2 v3 v4 v5 v6 v7 v8 v9 v10 v11 u0 u1 u2 u3 u4 u5 u6 u7 u8 u9 u10 u11 : Int) (W : World) : (binOp .neq 56 (.agg (laI v0 v1 v2 v3 v4 v5 v6 v7 v8 v9 v10 v11)) (.agg (laI u0 u1 u2 u3 u4 u5 u6 u7 u8 u9 u10 u11))).run Tryz.prog W = .ok (.bool (!decide (laL v0 v1 v2 v3 v4 v5 v6 v7 v8 v9 v10 v11 = laL u0 u1 u2 u3 u4 u5 u6 u7 u8 u9 u10 u11))) W := by
  rw [run_neq_struct, la_eqIL]
  rfl
theorem la_eqlAL (v0 v1 v2 v3 v4 v5 v6 v7 v8 v9 v10 v11 u0 u1 u2 u3 u4 u5 u6 u7 u8 u9 u10 u11 : Int) (W : World) : (binOp .eql 56 (.agg (laI v0 v1 v2 v3 v4 v5 v6 v7 v8 v9 v10 v11)) (.agg (laI u0 u1 u2 u3 u4 u5 u6 u7 u8 u9 u10 u11))).run Tryz.prog W = .ok (.bool (decide (laL v0 v1 v2 v3 v4 v5 v6 v7 v8 v9 v10 v11 = laL u0 u1 u2 u3 u4 u5 u6 u7 u8 u9 u10 u11))) W := by
  rw [run_eql_struct, la_eqIL]
  rfl
theorem li_eqL {a b : List Int} (ha : a.length = 12) (hb : b.length = 12) (W : World) : (binOp .eql 56 (.agg (liA a)) (.agg (liA b))).run Tryz.prog W = .ok (.bool (decide (a = b))) W := by
  obtain ⟨a0, a1, a2, a3, a4, a5, a6, a7, a8, a9, a10, a11, rfl⟩ := li_cases ha
  obtain ⟨b0, b1, b2, b3, b4, b5, b6, b7, b8, b9, b10, b11, rfl⟩ := li_cases hb
  exact la_eqlAL a0 a1 a2 a3 a4 a5 a6 a7 a8 a9 a10 a11 b0 b1 b2 b3 b4 b5 b6 b7 b8 b9 b10 b11 W
theorem li_eqA {a b : List Int} (ha : a.length = 12) (hb : b.length = 12) (W : World) : (binOp .eql 55 (.agg (liA a)) (.agg (liA b))).run Tryz.prog W = .ok (.bool (decide (a = b))) W := by
  obtain ⟨a0, a1, a2, a3, a4, a5, a6, a7, a8, a9, a10, a11, rfl⟩ := li_cases ha
  obtain ⟨b0, b1, b2, b3, b4, b5, b6, b7, b8, b9, b10, b11, rfl⟩ := li_cases hb
  exact la_eqlA a0 a1 a2 a3 a4 a5 a6 a7 a8 a9 a10 a11 b0 b1 b2 b3 b4 b5 b6 b7 b8 b9 b10 b11 W
theorem li_eqC (i j : Nat) {x y : List Int} (hx : x.length = 12) (hy : y.length = 12) (W : World) : ((do eqGuard .eql 56 (.tmp i) (.tmp j) (.agg (liA x)) (.agg (liA y)); binOp .eql 56 (.agg (liA x)) (.agg (liA y))) : Sem Value).run Tryz.prog W = .ok (.bool (decide (x = y))) W := by
  obtain ⟨a0, a1, a2, a3, a4, a5, a6, a7, a8, a9, a10, a11, rfl⟩ := li_cases hx
  obtain ⟨b0, b1, b2, b3, b4, b5, b6, b7, b8, b9, b10, b11, rfl⟩ := li_cases hy
  have h := la_eqIL a0 a1 a2 a3 a4 a5 a6 a7 a8 a9 a10 a11 b0 b1 b2 b3 b4 b5 b6 b7 b8 b9 b10 b11 W
  show ((do eqGuard .eql 56 (.tmp i) (.tmp j) (.agg (laI a0 a1 a2 a3 a4 a5 a6 a7 a8 a9 a10 a11)) (.agg (laI b0 b1 b2 b3 b4 b5 b6 b7 b8 b9 b10 b11)); binOp .eql 56 (.agg (laI a0 a1 a2 a3 a4 a5 a6 a7 a8 a9 a10 a11)) (.agg (laI b0 b1 b2 b3 b4 b5 b6 b7 b8 b9 b10 b11))) : Sem Value).run Tryz.prog W = _
  generalize laI a0 a1 a2 a3 a4 a5 a6 a7 a8 a9 a10 a11 = a at h ⊢
  generalize laI b0 b1 b2 b3 b4 b5 b6 b7 b8 b9 b10 b11 = c at h ⊢
  go_simp
theorem li_eqCA (i j : Nat) {x y : List Int} (hx : x.length = 12) (hy : y.length = 12) (W : World) : ((do eqGuard .eql 55 (.tmp i) (.tmp j) (.agg (liA x)) (.agg (liA y)); binOp .eql 55 (.agg (liA x)) (.agg (liA y))) : Sem Value).run Tryz.prog W = .ok (.bool (decide (x = y))) W := by
  obtain ⟨a0, a1, a2, a3, a4, a5, a6, a7, a8, a9, a10, a11, rfl⟩ := li_cases hx
  obtain ⟨b0, b1, b2, b3, b4, b5, b6, b7, b8, b9, b10, b11, rfl⟩ := li_cases hy
  have h := la_eqI a0 a1 a2 a3 a4 a5 a6 a7 a8 a9 a10 a11 b0 b1 b2 b3 b4 b5 b6 b7 b8 b9 b10 b11 W
  show ((do eqGuard .eql 55 (.tmp i) (.tmp j) (.agg (laI a0 a1 a2 a3 a4 a5 a6 a7 a8 a9 a10 a11)) (.agg (laI b0 b1 b2 b3 b4 b5 b6 b7 b8 b9 b10 b11)); binOp .eql 55 (.agg (laI a0 a1 a2 a3 a4 a5 a6 a7 a8 a9 a10 a11)) (.agg (laI b0 b1 b2 b3 b4 b5 b6 b7 b8 b9 b10 b11))) : Sem Value).run Tryz.prog W = _
  generalize laI a0 a1 a2 a3 a4 a5 a6 a7 a8 a9 a10 a11 = a at h ⊢
  generalize laI b0 b1 b2 b3 b4 b5 b6 b7 b8 b9 b10 b11 = c at h ⊢
  go_simp
end Go.Proofs.YtpjleeeligahaaaGreatDoor
