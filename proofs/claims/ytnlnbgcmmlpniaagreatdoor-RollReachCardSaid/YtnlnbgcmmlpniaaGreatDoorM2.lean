/-
  WHAT IS PROVED: the document's bytes of good writes (spinneyref05.Write). Conditions: those typed in the theorem. · words for slices of writes (own work): a slice that reads as a list of writes, nil let in; the document's Good of ids, of writes, of lists of writes. Conditions: those typed in each theorem. · words for slices of writes (own work): a slice that reads as a list of writes, nil let in; the document's Good of lists of writes. Conditions: those typed in each theorem. · the document's bytes of good writes, of lists of them (spinneyref05.Writes). Conditions: those typed in each theorem. · package pack's own calls that put values and writes behind other bytes (putValue, putWrite): the document's bytes. Conditions: those typed in each theorem. · string(..) of bytes that are read (own work); over any program that bears the types named. · plain facts, and, as definitions, what the walks of layer 5's statements take of package pack's calls (a reader is any predicate of worlds that its calls carry). The definitions are proved elsewhere, of the code itself. The chapter's examples hold, if the calls answer so. · a slice of bytes cut off at its front, at its end, at both, as one word (own work); over any program that bears the types named. · the document's taking of numbers, ints, texts and flags from bytes (spinneyref05), for all bytes. Conditions: those typed in each theorem.
-/
import Derived.Test.YtnlnbgcmmlpniaaGreatDoorM1
import Derived.Deep.RegionHeld3
import Derived.Deep.DrawnRows
import Derived.Test.YtnlnbgcmmlpniaaGreatDoorM0
namespace Go.Proofs.YtnlnbgcmmlpniaaGreatDoor
open Go.RowKit
attribute [local go_sem ↓] Go.wp_at_zero Go.wp_at_succ

/-- A write as a value, and as cells. -/
abbrev wrC (dev seq : Nat) (K : Nat) (ky : ByteArray) (ka na : Int) (sa : ByteArray) (kb nb : Int) (sb : ByteArray) : Array Value :=
  #[.int .i64 dev, .int .i64 seq, .int .i64 K, .string ky, .int .i64 ka, .int .i64 na, .string sa, .int .i64 kb, .int .i64 nb, .string sb]
/-- Its bytes. -/
def wrB (dev seq K : Nat) (ky : List UInt8) (ka na : Int) (sa : List UInt8) (kb nb : Int) (sb : List UInt8) : List UInt8 :=
  numB dev ++ numB seq ++ numB K ++ textB ky ++ valB ka na sa ++ valB kb nb sb
/-- The ten cells of a block. -/
def Ten (W : World) (b : Nat) (dev seq : Nat) (K : Nat) (ky : ByteArray) (ka na : Int) (sa : ByteArray) (kb nb : Int) (sb : ByteArray) : Prop :=
  W.cell? ⟨b, 0, none⟩ = some (.int .i64 dev) ∧ W.cell? ⟨b, 1, none⟩ = some (.int .i64 seq) ∧ W.cell? ⟨b, 2, none⟩ = some (.int .i64 K) ∧ W.cell? ⟨b, 3, none⟩ = some (.string ky) ∧ W.cell? ⟨b, 4, none⟩ = some (.int .i64 ka) ∧
    W.cell? ⟨b, 5, none⟩ = some (.int .i64 na) ∧ W.cell? ⟨b, 6, none⟩ = some (.string sa) ∧ W.cell? ⟨b, 7, none⟩ = some (.int .i64 kb) ∧ W.cell? ⟨b, 8, none⟩ = some (.int .i64 nb) ∧ W.cell? ⟨b, 9, none⟩ = some (.string sb)
theorem Ten.keep {W W' : World} {b dev seq K : Nat} {ky : ByteArray} {ka na : Int} {sa : ByteArray} {kb nb : Int} {sb : ByteArray} (h : Ten W b dev seq K ky ka na sa kb nb sb) {B : Nat} (hb : Below B W W') (hB : b < B) : Ten W' b dev seq K ky ka na sa kb nb sb := by
  have hc : ∀ i, W'.cell? ⟨b, i, none⟩ = W.cell? ⟨b, i, none⟩ := fun i => hb.cell (p := ⟨b, i, none⟩) hB
  unfold Ten at h ⊢
  simp only [hc]
  exact h
theorem ten_new (w : World) (dev seq K : Nat) (ky : ByteArray) (ka na : Int) (sa : ByteArray) (kb nb : Int) (sb : ByteArray) (t : TypeId) : Ten (w.alloc (.cells (wrC dev seq K ky ka na sa kb nb sb) t)) w.heap.size dev seq K ky ka na sa kb nb sb := by
  have h := blk_new w (wrC dev seq K ky ka na sa kb nb sb) t
  exact ⟨h.cell 0, h.cell 1, h.cell 2, h.cell 3, h.cell 4, h.cell 5, h.cell 6, h.cell 7, h.cell 8, h.cell 9⟩
theorem OwnB.keepG {base : Nat} {W W' : World} {A A3 : Option Addr} {n c : Nat} {l : List UInt8} (h : OwnB base W A n c l) (hg : W.grownBy W' (A3.map (·.block))) (hlt : ∀ a, A3 = some a → a.block < base) : OwnB base W' A n c l := by
  refine World.ownsRow.kept h hg ?_
  cases A with
  | none => exact Or.inl rfl
  | some a =>
    right
    cases A3 with
    | none => simp [Value.ownBlock]
    | some a3 =>
      have h1 := (h.blk rfl).1
      have h2 := hlt a3 rfl
      simp only [Value.ownBlock, Option.map_some, ne_eq, Option.some.injEq]
      omega
theorem below_h {H : Nat} {w w' : World} (h : Below w.heap.size w w') (hH : H ≤ w.heap.size) : Below H w w' := h.mono hH

section
variable {W w' w1 : World} {p q : Addr} {u v : Value} {H : Nat}
theorem sP0 (h : W.cell? p = some u) (k : W.cell? q = some v) : W.drew.cell? p = some u ∧ W.drew.cell? q = some v ∧ Below W.heap.size W W.drew := ⟨h, k, (Below.refl _ _).drew⟩
theorem sP1 (h : w'.cell? p = some u ∧ w'.cell? q = some v ∧ Below H W w') (hp : p.block < H) (hq : q.block < H) (hH : H ≤ W.heap.size) (hb : Below w'.heap.size w' w1) : w1.cell? p = some u ∧ w1.cell? q = some v ∧ Below H W w1 := by
  have hz := h.2.2.size
  exact ⟨(hb.cell (by omega)).trans h.1, (hb.cell (by omega)).trans h.2.1, h.2.2.trans (hb.mono (by omega))⟩
theorem sP2 (h : w'.cell? p = some u ∧ w'.cell? q = some v ∧ Below H W w') (hp : p.block < H) (hq : q.block < H) (hb : Below H w' w1) : w1.cell? p = some u ∧ w1.cell? q = some v ∧ Below H W w1 :=
  ⟨(hb.cell hp).trans h.1, (hb.cell hq).trans h.2.1, h.2.2.trans hb⟩
theorem lessP {A : Option Addr} {n c : Nat} {l : List UInt8} (h : OwnB w'.heap.size w1 A n c l) (hS : w'.cell? p = some u ∧ w'.cell? q = some v ∧ Below H W w') (hH : H ≤ W.heap.size) : OwnB H w1 A n c l := h.less (Nat.le_trans hH hS.2.2.size)
theorem szP (hS : w'.cell? p = some u ∧ w'.cell? q = some v ∧ Below H W w') (hH : H ≤ W.heap.size) : H ≤ w'.heap.size := Nat.le_trans hH hS.2.2.size
end
section
variable {W W0 w' w1 : World} {p q : Addr} {u v : Value} {H b : Nat} {v4 v5 v6 v7 v8 v9 : Value}
theorem sQ0 (h : W.cell? p = some u) (k : W.cell? q = some v) (hB : Below H W0 W) : W.drew.cell? p = some u ∧ W.drew.cell? q = some v ∧ Below H W0 W.drew := ⟨h, k, hB.drew⟩
/-- Six cells, from the fifth on. -/
theorem s60 (h : W.cell? ⟨b, 4, none⟩ = some v4 ∧ W.cell? ⟨b, 5, none⟩ = some v5 ∧ W.cell? ⟨b, 6, none⟩ = some v6 ∧ W.cell? ⟨b, 7, none⟩ = some v7 ∧ W.cell? ⟨b, 8, none⟩ = some v8 ∧ W.cell? ⟨b, 9, none⟩ = some v9) (hB : Below H W0 W) :
    W.drew.cell? ⟨b, 4, none⟩ = some v4 ∧ W.drew.cell? ⟨b, 5, none⟩ = some v5 ∧ W.drew.cell? ⟨b, 6, none⟩ = some v6 ∧ W.drew.cell? ⟨b, 7, none⟩ = some v7 ∧ W.drew.cell? ⟨b, 8, none⟩ = some v8 ∧ W.drew.cell? ⟨b, 9, none⟩ = some v9 ∧ Below H W0 W.drew := ⟨h.1, h.2.1, h.2.2.1, h.2.2.2.1, h.2.2.2.2.1, h.2.2.2.2.2, hB.drew⟩
theorem s62 (h : w'.cell? ⟨b, 4, none⟩ = some v4 ∧ w'.cell? ⟨b, 5, none⟩ = some v5 ∧ w'.cell? ⟨b, 6, none⟩ = some v6 ∧ w'.cell? ⟨b, 7, none⟩ = some v7 ∧ w'.cell? ⟨b, 8, none⟩ = some v8 ∧ w'.cell? ⟨b, 9, none⟩ = some v9 ∧ Below H W0 w') (hp : b < H) (hb : Below H w' w1) :
    w1.cell? ⟨b, 4, none⟩ = some v4 ∧ w1.cell? ⟨b, 5, none⟩ = some v5 ∧ w1.cell? ⟨b, 6, none⟩ = some v6 ∧ w1.cell? ⟨b, 7, none⟩ = some v7 ∧ w1.cell? ⟨b, 8, none⟩ = some v8 ∧ w1.cell? ⟨b, 9, none⟩ = some v9 ∧ Below H W0 w1 := by
  have hc : ∀ i, w1.cell? ⟨b, i, none⟩ = w'.cell? ⟨b, i, none⟩ := fun i => hb.cell (p := ⟨b, i, none⟩) hp
  simp only [hc]
  exact ⟨h.1, h.2.1, h.2.2.1, h.2.2.2.1, h.2.2.2.2.1, h.2.2.2.2.2.1, h.2.2.2.2.2.2.trans hb⟩
theorem s61 (h : w'.cell? ⟨b, 4, none⟩ = some v4 ∧ w'.cell? ⟨b, 5, none⟩ = some v5 ∧ w'.cell? ⟨b, 6, none⟩ = some v6 ∧ w'.cell? ⟨b, 7, none⟩ = some v7 ∧ w'.cell? ⟨b, 8, none⟩ = some v8 ∧ w'.cell? ⟨b, 9, none⟩ = some v9 ∧ Below H W0 w') (hp : b < H) (hH : H ≤ W0.heap.size) (hb : Below w'.heap.size w' w1) :
    w1.cell? ⟨b, 4, none⟩ = some v4 ∧ w1.cell? ⟨b, 5, none⟩ = some v5 ∧ w1.cell? ⟨b, 6, none⟩ = some v6 ∧ w1.cell? ⟨b, 7, none⟩ = some v7 ∧ w1.cell? ⟨b, 8, none⟩ = some v8 ∧ w1.cell? ⟨b, 9, none⟩ = some v9 ∧ Below H W0 w1 :=
  s62 h hp (hb.mono (Nat.le_trans hH h.2.2.2.2.2.2.size))
theorem b6 (h : w'.cell? ⟨b, 4, none⟩ = some v4 ∧ w'.cell? ⟨b, 5, none⟩ = some v5 ∧ w'.cell? ⟨b, 6, none⟩ = some v6 ∧ w'.cell? ⟨b, 7, none⟩ = some v7 ∧ w'.cell? ⟨b, 8, none⟩ = some v8 ∧ w'.cell? ⟨b, 9, none⟩ = some v9 ∧ Below H W0 w') : Below H W0 w' := h.2.2.2.2.2.2
end
theorem ten_tail {W w' : World} {b K : Nat} {ky : ByteArray} {ka na : Int} {sa : ByteArray} {kb nb : Int} {sb : ByteArray}
    (h : W.cell? ⟨b, 2, none⟩ = some (.int .i64 K) ∧ W.cell? ⟨b, 3, none⟩ = some (.string ky) ∧ W.cell? ⟨b, 4, none⟩ = some (.int .i64 ka) ∧ W.cell? ⟨b, 5, none⟩ = some (.int .i64 na) ∧ W.cell? ⟨b, 6, none⟩ = some (.string sa) ∧ W.cell? ⟨b, 7, none⟩ = some (.int .i64 kb) ∧ W.cell? ⟨b, 8, none⟩ = some (.int .i64 nb) ∧ W.cell? ⟨b, 9, none⟩ = some (.string sb))
    {H : Nat} (hb : Below H W w') (hB : b < H) : w'.cell? ⟨b, 2, none⟩ = some (.int .i64 K) ∧ w'.cell? ⟨b, 3, none⟩ = some (.string ky) ∧ w'.cell? ⟨b, 4, none⟩ = some (.int .i64 ka) ∧ w'.cell? ⟨b, 5, none⟩ = some (.int .i64 na) ∧ w'.cell? ⟨b, 6, none⟩ = some (.string sa) ∧ w'.cell? ⟨b, 7, none⟩ = some (.int .i64 kb) ∧ w'.cell? ⟨b, 8, none⟩ = some (.int .i64 nb) ∧ w'.cell? ⟨b, 9, none⟩ = some (.string sb) := by
  have hc : ∀ i, w'.cell? ⟨b, i, none⟩ = W.cell? ⟨b, i, none⟩ := fun i => hb.cell (p := ⟨b, i, none⟩) hB
  simp only [hc]
  exact h
theorem six_keep {W w1 w2 : World} {b H : Nat} {v4 v5 v6 v7 v8 v9 : Value} (h : w1.cell? ⟨b, 4, none⟩ = some v4 ∧ w1.cell? ⟨b, 5, none⟩ = some v5 ∧ w1.cell? ⟨b, 6, none⟩ = some v6 ∧ w1.cell? ⟨b, 7, none⟩ = some v7 ∧ w1.cell? ⟨b, 8, none⟩ = some v8 ∧ w1.cell? ⟨b, 9, none⟩ = some v9)
    (h1 : Below H W w1) (h2 : Below H W w2) (hB : b < H) : w2.cell? ⟨b, 4, none⟩ = some v4 ∧ w2.cell? ⟨b, 5, none⟩ = some v5 ∧ w2.cell? ⟨b, 6, none⟩ = some v6 ∧ w2.cell? ⟨b, 7, none⟩ = some v7 ∧ w2.cell? ⟨b, 8, none⟩ = some v8 ∧ w2.cell? ⟨b, 9, none⟩ = some v9 := by
  have hc : ∀ i, w2.cell? ⟨b, i, none⟩ = w1.cell? ⟨b, i, none⟩ := fun i => (h2.cell (p := ⟨b, i, none⟩) hB).trans (h1.cell (p := ⟨b, i, none⟩) hB).symm
  simp only [hc]
  exact h
theorem refPText_b (s : ByteArray) (w : World) (hs : s.size ≤ 1000) : Calls Tryz.prog 50 #[.string s] w fun e w' => (∃ (A : Option Addr) (m c : Nat), e = .returned (.slice A m c) ∧ OwnB w.heap.size w' A m c (textB s.data.toList) ∧ m ≤ 1000009) ∧ Below w.heap.size w w' :=
  (refPText_any s w (by omega)).mono fun _ _ ⟨⟨A, m, c, he, hO⟩, hb⟩ => ⟨⟨A, m, c, he, hO, by have := textB_small (s := s) (by omega); have := hO.len; omega⟩, hb⟩
theorem valB_small {k n : Int} {s : ByteArray} (hk : k = 0 ∨ k = 1 ∨ k = 2) (h0 : -9223372036854775808 ≤ n) (h1 : n ≤ 9223372036854775807) (hs : s.size ≤ 1000000) : (valB k n s.data.toList).length ≤ 1000018 := by
  rcases hk with rfl | rfl | rfl
  · rw [valB_0]
    have := numB_small (n := 0) (by omega)
    omega
  · rw [valB_1, List.length_append]
    have := numB_small (n := 1) (by omega)
    have := numB_small (zig_lt h0 h1)
    omega
  · rw [valB_2, List.length_append]
    have := numB_small (n := 2) (by omega)
    have := textB_small hs
    omega
theorem refPValue_b (k n : Int) (s : ByteArray) (w : World) (hk : k = 0 ∨ k = 1 ∨ k = 2) (h0 : -9223372036854775808 ≤ n) (h1 : n ≤ 9223372036854775807) (hs : s.size ≤ 1000) :
    Calls Tryz.prog 105 #[.agg #[.int .i64 k, .int .i64 n, .string s]] w fun e w' => (∃ (A : Option Addr) (m c : Nat), e = .returned (.slice A m c) ∧ OwnB w.heap.size w' A m c (valB k n s.data.toList) ∧ m ≤ 1000018) ∧ Below w.heap.size w w' :=
  (refPValue_any k n s w hk h0 h1 (by omega)).mono fun _ _ ⟨⟨A, m, c, he, hO⟩, hb⟩ => ⟨⟨A, m, c, he, hO, by have := valB_small (s := s) hk h0 h1 (by omega); have := hO.len; omega⟩, hb⟩
theorem refNumber_b (n : Nat) (w : World) (hn : n ≤ 1000) : Calls Tryz.prog 49 #[.int .u64 n] w fun e w' => (∃ (A : Option Addr) (m c : Nat), e = .returned (.slice A m c) ∧ OwnB w.heap.size w' A m c (numB n) ∧ m ≤ 9) ∧ Below w.heap.size w w' :=
  (refNumber_any n w (by omega)).mono fun _ _ ⟨⟨A, m, c, he, hO⟩, hb⟩ => ⟨⟨A, m, c, he, hO, by have := numB_small (n := n) (by omega); have := hO.len; omega⟩, hb⟩

set_option maxRecDepth 100000 in
set_option maxHeartbeats 8000000 in
theorem refPWrite_any (dev seq K : Nat) (ky : ByteArray) (ka na : Int) (sa : ByteArray) (kb nb : Int) (sb : ByteArray) (w : World) (hd : dev ≤ 1000) (hq : seq ≤ 1000) (hK : K ≤ 1000) (hky : ky.size ≤ 1000)
    (hka : ka = 0 ∨ ka = 1 ∨ ka = 2) (ha0 : -9223372036854775808 ≤ na) (ha1 : na ≤ 9223372036854775807) (hsa : sa.size ≤ 1000) (hkb : kb = 0 ∨ kb = 1 ∨ kb = 2) (hb0 : -9223372036854775808 ≤ nb) (hb1 : nb ≤ 9223372036854775807) (hsb : sb.size ≤ 1000) :
    Calls Tryz.prog 61 #[.agg (wrC dev seq K ky ka na sa kb nb sb)] w fun e w' => PutP w (wrB dev seq K ky.data.toList ka na sa.data.toList kb nb sb.data.toList) e w' := by
  obtain ⟨i0, hi0, hz0, hz1, hz2⟩ := info_parts byt_info
  have HVa := Lib.hid (fun W => refPValue_b ka na sa W hka ha0 ha1 hsa)
  have HVb := Lib.hid (fun W => refPValue_b kb nb sb W hkb hb0 hb1 hsb)
  have d0 : (0 : Int) ≤ (dev : Int) := by omega
  have d1 : (dev : Int) ≤ 1000 := by omega
  have s0 : (0 : Int) ≤ (seq : Int) := by omega
  have s1 : (seq : Int) ≤ 1000 := by omega
  have k0 : (0 : Int) ≤ (K : Int) := by omega
  have k1 : (K : Int) ≤ 1000 := by omega
  clear hka hkb ha0 ha1 hb0 hb1
  go_enter Tryz.func61, Tryz.ntmps61
  go_wp2_with fail
  have hT := ten_new w dev seq K ky ka na sa kb nb sb 63
  have hB := b0 w (.cells (wrC dev seq K ky ka na sa kb nb sb) 63)
  have hlt : w.heap.size < (w.alloc (.cells (wrC dev seq K ky ka na sa kb nb sb) 63)).heap.size := by simp
  generalize w.alloc (.cells (wrC dev seq K ky ka na sa kb nb sb) 63) = W at hT hB hlt ⊢
  have HB := Lib.hid hB
  clear hB
  generalize w.heap.size = b at hT hlt ⊢
  obtain ⟨t0, t1, t2⟩ := hT
  have T2 := Lib.hid t2
  clear t2
  have hle := Nat.le_refl W.heap.size
  have wd : IntKind.u64.wrap (dev : Int) = (dev : Int) := wrap_size (by omega)
  have wq : IntKind.u64.wrap (seq : Int) = (seq : Int) := wrap_size (by omega)
  go_region_held3 (fun w' => w'.cell? ⟨b, 0, none⟩ = some (.int .i64 dev) ∧ w'.cell? ⟨b, 1, none⟩ = some (.int .i64 seq) ∧ Below W.heap.size W w')
    (first | assumption | exact sP0 t0 t1 | exact sP2 (by assumption) hlt hlt (by assumption) | exact sP1 (by assumption) hlt hlt hle (by assumption))
    (first
      | (go_at_call 49; ((with_reducible refine (refNumber_b dev _ hd).mono ?_); rintro e w1 ⟨⟨A1, m1, c1, rfl, hO1, hm1⟩, hb1⟩; replace hO1 := lessP hO1 (by assumption) hle; try replace hO2 := hO2.keep hb1))
      | (go_at_call 49; ((with_reducible refine (refNumber_b seq _ hq).mono ?_); rintro e w2 ⟨⟨A2, m2, c2, rfl, hO2, hm2⟩, hb2⟩; replace hO2 := lessP hO2 (by assumption) hle; try replace hO1 := hO1.keep hb2))
      | (refine step_apB (o := ⟨some 14, _, _, _, _, _⟩) (base := W.heap.size) (n := m1) (m := m2) (l := numB dev) (l2 := numB seq) (by rfl) _ _ (by rfl) Tryz.underlying29 Tryz.underlying29 hi0 hz0 hz1 hz2 (by rfl) (by rfl) hO1 hO2.rd hO2.len (m1 + m2) rfl (by omega) (szP (by assumption) hle) ?_; intro A3 c3 w3 hO3 hb3 hg3))
  have hS1 := (by assumption : _ ∧ _ ∧ Below W.heap.size W w3).2.2
  obtain ⟨t2, t3, t4⟩ := ten_tail T2.out hS1 hlt
  have T4 := Lib.hid t4
  have hn3 : m1 + m2 ≤ 18 := by omega
  clear hO1 hO2 hb1 hb2 hb3 hg3 t0 t1 T2 t4 wd wq hm1 hm2
  generalize m1 + m2 = n3 at hO3 hn3 ⊢
  have wK : IntKind.u64.wrap (K : Int) = (K : Int) := wrap_size (by omega)
  go_wp2_with fail
  replace hO3 := hO3.drew_
  go_region_held3 (fun w' => w'.cell? ⟨b, 2, none⟩ = some (.int .i64 K) ∧ w'.cell? ⟨b, 3, none⟩ = some (.string ky) ∧ Below W.heap.size W w')
    (first | assumption | exact sQ0 t2 t3 hS1 | exact sP2 (by assumption) hlt hlt (by assumption) | exact sP1 (by assumption) hlt hlt hle (by assumption))
    (first
      | (go_at_call 49; ((with_reducible refine (refNumber_b K _ hK).mono ?_); rintro e w4 ⟨⟨A4, m4, c4, rfl, hO4, hm4⟩, hb4⟩; replace hO4 := lessP hO4 (by assumption) hle; replace hO3 := hO3.keep hb4))
      | (refine step_apB (o := ⟨some 21, _, _, _, _, _⟩) (base := W.heap.size) (n := n3) (m := m4) (l := numB dev ++ numB seq) (l2 := numB K) (by rfl) _ _ (by rfl) Tryz.underlying29 Tryz.underlying29 hi0 hz0 hz1 hz2 (by rfl) (by rfl) hO3 hO4.rd hO4.len (n3 + m4) rfl (by omega) (szP (by assumption) hle) ?_; intro A5 c5 w5 hO5 hb5 hg5)
      | (go_at_call 50; ((with_reducible refine (refPText_b ky _ hky).mono ?_); rintro e w6 ⟨⟨A6, m6, c6, rfl, hO6, hm6⟩, hb6⟩; replace hO6 := lessP hO6 (by assumption) hle; replace hO5 := hO5.keep hb6))
      | (refine step_apB (o := ⟨some 26, _, _, _, _, _⟩) (base := W.heap.size) (n := n3 + m4) (m := m6) (l := numB dev ++ numB seq ++ numB K) (l2 := textB ky.data.toList) (by rfl) _ _ (by rfl) Tryz.underlying29 Tryz.underlying29 hi0 hz0 hz1 hz2 (by rfl) (by rfl) hO5 hO6.rd hO6.len (n3 + m4 + m6) rfl (by omega) (szP (by assumption) hle) ?_; intro A7 c7 w7 hO7 hb7 hg7))
  have hS2 := (by assumption : _ ∧ _ ∧ Below W.heap.size W w7).2.2
  have t5 := six_keep T4.out hS1 hS2 hlt
  have hn7 : n3 + m4 + m6 ≤ 1000050 := by omega
  clear hO3 hO4 hO5 hO6 hb4 hb5 hb6 hb7 hg5 hg7 t2 t3 wK hm4 hm6 hS1
  generalize n3 + m4 + m6 = n7 at hO7 hn7 ⊢
  have T5 := Lib.hid t5
  clear t5 T4
  go_wp2_with fail
  replace hO7 := hO7.drew_
  go_region_held3 (fun w' => w'.cell? ⟨b, 4, none⟩ = some (.int .i64 ka) ∧ w'.cell? ⟨b, 5, none⟩ = some (.int .i64 na) ∧ w'.cell? ⟨b, 6, none⟩ = some (.string sa) ∧ w'.cell? ⟨b, 7, none⟩ = some (.int .i64 kb) ∧ w'.cell? ⟨b, 8, none⟩ = some (.int .i64 nb) ∧ w'.cell? ⟨b, 9, none⟩ = some (.string sb) ∧ Below W.heap.size W w')
    (first | assumption | exact s60 T5.out hS2 | exact s62 (by assumption) hlt (by assumption) | exact s61 (by assumption) hlt hle (by assumption))
    (first
      | (go_at_call 105; ((with_reducible refine (HVa.out _).mono ?_); rintro e w8 ⟨⟨A8, m8, c8, rfl, hO8, hm8⟩, hb8⟩; replace hO8 := hO8.less (Nat.le_trans hle (b6 (by assumption)).size); replace hO7 := hO7.keep hb8))
      | (refine step_apB (o := ⟨some 32, _, _, _, _, _⟩) (base := W.heap.size) (n := n7) (m := m8) (l := numB dev ++ numB seq ++ numB K ++ textB ky.data.toList) (l2 := valB ka na sa.data.toList) (by rfl) _ _ (by rfl) Tryz.underlying29 Tryz.underlying29 hi0 hz0 hz1 hz2 (by rfl) (by rfl) hO7 hO8.rd hO8.len (n7 + m8) rfl (by omega) (b6 (by assumption)).size ?_; intro A9 c9 w9 hO9 hb9 hg9)
      | (go_at_call 105; ((with_reducible refine (HVb.out _).mono ?_); rintro e w10 ⟨⟨A10, m10, c10, rfl, hO10, hm10⟩, hb10⟩; replace hO10 := hO10.less (Nat.le_trans hle (b6 (by assumption)).size); replace hO9 := hO9.keep hb10))
      | (refine step_apB (o := ⟨some 37, _, _, _, _, _⟩) (base := W.heap.size) (n := n7 + m8) (m := m10) (l := numB dev ++ numB seq ++ numB K ++ textB ky.data.toList ++ valB ka na sa.data.toList) (l2 := valB kb nb sb.data.toList) (by rfl) _ _ (by rfl) Tryz.underlying29 Tryz.underlying29 hi0 hz0 hz1 hz2 (by rfl) (by rfl) hO9 hO10.rd hO10.len (n7 + m8 + m10) rfl (by omega) (b6 (by assumption)).size ?_; intro A11 c11 w11 hO11 hb11 hg11))
  have hS3 := b6 (by assumption : _ ∧ _ ∧ _ ∧ _ ∧ _ ∧ _ ∧ Below W.heap.size W w11)
  go_wp2_with fail
  go_ret
  exact ⟨⟨A11, n7 + m8 + m10, c11, rfl, hO11.less HB.out.size⟩, bt HB.out hS3⟩
end Go.Proofs.YtnlnbgcmmlpniaaGreatDoor

namespace Go.Proofs.YtnlnbgcmmlpniaaGreatDoor
open Go.RowKit

/-- A write's ten cells, as a value. -/
abbrev wrI (dev seq K : Int) (ky : ByteArray) (ka na : Int) (sa : ByteArray) (kb nb : Int) (sb : ByteArray) : Array Value :=
  #[.int .i64 dev, .int .i64 seq, .int .i64 K, .string ky, .int .i64 ka, .int .i64 na, .string sa, .int .i64 kb, .int .i64 nb, .string sb]
/-- Is it good? -/
def idB (dev seq : Int) : Bool := decide (1 ≤ dev ∧ dev ≤ 11 ∧ 1 ≤ seq ∧ seq ≤ 40)
def wrGoodB (dev seq K : Int) (ky : ByteArray) (ka na : Int) (sa : ByteArray) (kb nb : Int) (sb : ByteArray) : Bool := idB dev seq && opB K ky ka na sa kb nb sb

set_option maxHeartbeats 1000000 in
theorem refGoodId_any (dev seq : Int) (w : World) :
    Calls Tryz.prog 95 #[.agg #[.int .i64 dev, .int .i64 seq]] w fun e w' => e = .returned (.bool (idB dev seq)) ∧ Below w.heap.size w w' := by
  go_enter Tryz.func95, Tryz.ntmps95
  go_wp2
  all_goals go_ret
  all_goals refine ⟨ret_bool ?_, b0 _ _⟩
  all_goals unfold idB
  all_goals rw [Bool.eq_iff_iff]
  all_goals simp only [decide_eq_true_eq, Bool.false_eq_true, false_iff] at *
  all_goals omega

theorem blk_c10 {W : World} {b : Nat} {v0 v1 v2 v3 v4 v5 v6 v7 v8 v9 : Value} {t : TypeId} (h : Blk W b #[v0, v1, v2, v3, v4, v5, v6, v7, v8, v9] t) :
    W.cell? ⟨b, 0, none⟩ = some v0 ∧ W.cell? ⟨b, 1, none⟩ = some v1 ∧ W.cell? ⟨b, 2, none⟩ = some v2 ∧ W.cell? ⟨b, 3, none⟩ = some v3 ∧ W.cell? ⟨b, 4, none⟩ = some v4 ∧ W.cell? ⟨b, 5, none⟩ = some v5 ∧ W.cell? ⟨b, 6, none⟩ = some v6 ∧ W.cell? ⟨b, 7, none⟩ = some v7 ∧ W.cell? ⟨b, 8, none⟩ = some v8 ∧ W.cell? ⟨b, 9, none⟩ = some v9 ∧ b < W.heap.size :=
  ⟨h.cell 0, h.cell 1, h.cell 2, h.cell 3, h.cell 4, h.cell 5, h.cell 6, h.cell 7, h.cell 8, h.cell 9, h.lt⟩

set_option maxHeartbeats 2000000 in
theorem refWrGood_any (dev seq K ka na kb nb : Int) (ky sa sb : ByteArray) (w : World) (hk : ky.size ≤ maxLen) (ha : sa.size ≤ maxLen) (hb : sb.size ≤ maxLen) :
    Calls Tryz.prog 52 #[.agg (wrI dev seq K ky ka na sa kb nb sb)] w fun e w' => e = .returned (.bool (wrGoodB dev seq K ky ka na sa kb nb sb)) ∧ Below w.heap.size w w' := by
  go_enter Tryz.func52, Tryz.ntmps52
  go_wp2_with fail
  have hC := Lib.hid (blk_new w (wrI dev seq K ky ka na sa kb nb sb) 63)
  have hB := b0 w (.cells (wrI dev seq K ky ka na sa kb nb sb) 63)
  generalize w.alloc (.cells (wrI dev seq K ky ka na sa kb nb sb) 63) = W at hC hB ⊢
  refine (refGoodId_any _ _ _).mono ?_
  rintro e w1 ⟨rfl, hb1⟩
  replace hB := bt hB hb1
  replace hC := Lib.hid (hC.out.keep hb1)
  clear hb1
  obtain ⟨c0, c1, c2, c3, c4, c5, c6, c7, c8, c9, c10⟩ := blk_c10 hC.out
  cases gi : idB dev seq
  · have R : Hid (wrGoodB dev seq K ky ka na sa kb nb sb = false) := by show _ = _; unfold wrGoodB; rw [gi]; rfl
    clear gi
    go_wp2_with fail
    go_ret
    exact ⟨ret_bool R.out.symm, hB⟩
  · have R : Hid (wrGoodB dev seq K ky ka na sa kb nb sb = opB K ky ka na sa kb nb sb) := by show _ = _; unfold wrGoodB; rw [gi]; rfl
    clear gi
    go_wp2_with fail
    refine (refOpGood_any _ _ _ _ _ _ _ _ _ hk ha hb).mono ?_
    rintro e w2 ⟨rfl, hb2⟩
    replace hB := bt hB hb2
    go_wp2_with fail
    go_ret
    exact ⟨ret_bool R.out.symm, hB⟩
end Go.Proofs.YtnlnbgcmmlpniaaGreatDoor

namespace Go.Proofs.YtnlnbgcmmlpniaaGreatDoor
open Go.RowKit
attribute [local go_sem ↓] Go.wp_at_zero Go.wp_at_succ

/-- A write. -/
structure Wr where
  dev : Int
  seq : Int
  K : Int
  ky : ByteArray
  ka : Int
  na : Int
  sa : ByteArray
  kb : Int
  nb : Int
  sb : ByteArray
abbrev Wr.cells (x : Wr) : Array Value := wrI x.dev x.seq x.K x.ky x.ka x.na x.sa x.kb x.nb x.sb
def Wr.good (x : Wr) : Bool := wrGoodB x.dev x.seq x.K x.ky x.ka x.na x.sa x.kb x.nb x.sb
/-- Its texts are no longer than the form's reach, its numbers are of 64 bits. -/
def Wr.fits (x : Wr) : Prop := x.ky.size ≤ maxLen ∧ x.sa.size ≤ maxLen ∧ x.sb.size ≤ maxLen ∧ (-9223372036854775808 ≤ x.na ∧ x.na ≤ 9223372036854775807) ∧ (-9223372036854775808 ≤ x.nb ∧ x.nb ≤ 9223372036854775807)
/-- The slice at A reads as the writes l, in blocks below B. -/
def RdW (B : Nat) (W : World) (A : Option Addr) (l : List Wr) : Prop :=
  ∀ k x, l[k]? = some x → ∃ ad, A = some ad ∧ ad.block < B ∧ ∀ j v, x.cells[j]? = some v → W.cell? (ad.add (k * 10 + j)) = some v
theorem RdW.nil (B : Nat) (W : World) (A : Option Addr) : RdW B W A [] := fun k x h => by simp at h
theorem RdW.keep {B C : Nat} {W W' : World} {A : Option Addr} {l : List Wr} (h : RdW B W A l) (hb : Below C W W') (hBC : B ≤ C) : RdW B W' A l := by
  intro k x hx
  obtain ⟨ad, hA, hl, hc⟩ := h k x hx
  exact ⟨ad, hA, hl, fun j v hv => (hb.cell (by rw [add_block]; omega)).trans (hc j v hv)⟩
theorem RdW.more {B C : Nat} {W : World} {A : Option Addr} {l : List Wr} (h : RdW B W A l) (hBC : B ≤ C) : RdW C W A l := by
  intro k x hx
  obtain ⟨ad, hA, hl, hc⟩ := h k x hx
  exact ⟨ad, hA, by omega, hc⟩
theorem RdW.drew_ {B : Nat} {W : World} {A : Option Addr} {l : List Wr} (h : RdW B W A l) : RdW B W.drew A l := h
theorem RdW.at_ {B : Nat} {W : World} {A : Option Addr} {l : List Wr} (h : RdW B W A l) {k : Nat} (hk : k < l.length) : ∃ ad, A = some ad ∧ ad.block < B ∧ ∀ j v, (l[k]).cells[j]? = some v → W.cell? (ad.add (k * 10 + j)) = some v :=
  h k _ (List.getElem?_eq_getElem hk)

theorem add_at (a : Addr) (i j : Nat) : a.add (i + (j + 1)) = ⟨(a.add i).block, (a.add i).off + (j + 1), none⟩ := by
  rw [← add_add', Addr.add, if_neg (by omega)]
/-- A write's ten cells, as a load asks for them. -/
theorem wr_cells {W : World} {ad : Addr} {k : Nat} {x : Wr} (hc : ∀ j v, x.cells[j]? = some v → W.cell? (ad.add (k * 10 + j)) = some v) :
    W.cell? (ad.add (k * 10)) = some (.int .i64 x.dev) ∧ W.cell? ⟨(ad.add (k * 10)).block, (ad.add (k * 10)).off + 1, none⟩ = some (.int .i64 x.seq) ∧ W.cell? ⟨(ad.add (k * 10)).block, (ad.add (k * 10)).off + 2, none⟩ = some (.int .i64 x.K) ∧ W.cell? ⟨(ad.add (k * 10)).block, (ad.add (k * 10)).off + 3, none⟩ = some (.string x.ky) ∧
    W.cell? ⟨(ad.add (k * 10)).block, (ad.add (k * 10)).off + 4, none⟩ = some (.int .i64 x.ka) ∧ W.cell? ⟨(ad.add (k * 10)).block, (ad.add (k * 10)).off + 5, none⟩ = some (.int .i64 x.na) ∧ W.cell? ⟨(ad.add (k * 10)).block, (ad.add (k * 10)).off + 6, none⟩ = some (.string x.sa) ∧
    W.cell? ⟨(ad.add (k * 10)).block, (ad.add (k * 10)).off + 7, none⟩ = some (.int .i64 x.kb) ∧ W.cell? ⟨(ad.add (k * 10)).block, (ad.add (k * 10)).off + 8, none⟩ = some (.int .i64 x.nb) ∧ W.cell? ⟨(ad.add (k * 10)).block, (ad.add (k * 10)).off + 9, none⟩ = some (.string x.sb) := by
  have h : ∀ j v, x.cells[j + 1]? = some v → W.cell? ⟨(ad.add (k * 10)).block, (ad.add (k * 10)).off + (j + 1), none⟩ = some v := fun j v hv => by
    rw [← add_at]
    exact hc (j + 1) v hv
  exact ⟨hc 0 _ rfl, h 0 _ rfl, h 1 _ rfl, h 2 _ rfl, h 3 _ rfl, h 4 _ rfl, h 5 _ rfl, h 6 _ rfl, h 7 _ rfl, h 8 _ rfl⟩

def goodAll (l : List Wr) : Bool := l.all Wr.good

end Go.Proofs.YtnlnbgcmmlpniaaGreatDoor

namespace Go.Proofs.YtnlnbgcmmlpniaaGreatDoor
open Go.RowKit
attribute [local go_sem ↓] Go.wp_at_zero Go.wp_at_succ

/-- A write's bytes; a list's. -/
def wB (x : Wr) : List UInt8 := wrB x.dev.toNat x.seq.toNat x.K.toNat x.ky.data.toList x.ka x.na x.sa.data.toList x.kb x.nb x.sb.data.toList
def wsB (l : List Wr) : List UInt8 := numB l.length ++ l.flatMap wB
theorem goodB_in {k n : Int} {s : ByteArray} (h : goodB k n s = true) : (k = 0 ∨ k = 1 ∨ k = 2) ∧ s.size ≤ 40 := by
  unfold goodB at h
  rw [decide_eq_true_eq] at h
  omega
theorem good_in {x : Wr} (h : x.good = true) : (1 ≤ x.dev ∧ x.dev ≤ 11) ∧ (1 ≤ x.seq ∧ x.seq ≤ 40) ∧ (1 ≤ x.K ∧ x.K ≤ 4) ∧ x.ky.size ≤ 20 ∧ ((x.ka = 0 ∨ x.ka = 1 ∨ x.ka = 2) ∧ x.sa.size ≤ 40) ∧ ((x.kb = 0 ∨ x.kb = 1 ∨ x.kb = 2) ∧ x.sb.size ≤ 40) := by
  unfold Wr.good wrGoodB idB opB at h
  simp only [Bool.and_eq_true, decide_eq_true_eq] at h
  obtain ⟨h1, ⟨⟨h2, h3⟩, h4⟩, h5⟩ := h
  have h6 := (keyB_all h2).2.2
  have h7 : x.ky.data.toList.length = x.ky.size := Array.length_toList
  refine ⟨by omega, by omega, by omega, by omega, goodB_in h3, goodB_in h4⟩
theorem wB_small {x : Wr} (h : x.good = true) (hf : x.fits) : (wB x).length ≤ 5000000 := by
  obtain ⟨h1, h2, h3, h4, h5, h6⟩ := good_in h
  obtain ⟨_, _, _, f1, f2⟩ := hf
  unfold wB wrB
  simp only [List.length_append]
  have a1 := numB_small (n := x.dev.toNat) (by omega)
  have a2 := numB_small (n := x.seq.toNat) (by omega)
  have a3 := numB_small (n := x.K.toNat) (by omega)
  have a4 := textB_small (s := x.ky) (by omega)
  have a5 := valB_small (s := x.sa) h5.1 f1.1 f1.2 (by omega)
  have a6 := valB_small (s := x.sb) h6.1 f2.1 f2.2 (by omega)
  omega
theorem refPWr_any (x : Wr) (h : x.good = true) (hf : x.fits) (w : World) :
    Calls Tryz.prog 61 #[.agg x.cells] w fun e w' => (∃ (A : Option Addr) (m c : Nat), e = .returned (.slice A m c) ∧ OwnB w.heap.size w' A m c (wB x) ∧ m ≤ 5000000) ∧ Below w.heap.size w w' := by
  obtain ⟨h1, h2, h3, h4, h5, h6⟩ := good_in h
  obtain ⟨_, _, _, f1, f2⟩ := hf
  have hs := wB_small h ⟨by unfold maxLen; omega, by unfold maxLen; omega, by unfold maxLen; omega, f1, f2⟩
  have k := refPWrite_any x.dev.toNat x.seq.toNat x.K.toNat x.ky x.ka x.na x.sa x.kb x.nb x.sb w (by omega) (by omega) (by omega) (by omega) h5.1 f1.1 f1.2 (by omega) h6.1 f2.1 f2.2 (by omega)
  rw [show wrC x.dev.toNat x.seq.toNat x.K.toNat x.ky x.ka x.na x.sa x.kb x.nb x.sb = x.cells by
    show (#[_, _, _, _, _, _, _, _, _, _] : Array Value) = #[_, _, _, _, _, _, _, _, _, _]
    rw [Int.toNat_of_nonneg (by omega), Int.toNat_of_nonneg (by omega), Int.toNat_of_nonneg (by omega)]] at k
  exact k.mono fun _ _ ⟨⟨A, m, c, he, hO⟩, hb⟩ => ⟨⟨A, m, c, he, hO, by have := hO.len; unfold wB at hs; omega⟩, hb⟩

end Go.Proofs.YtnlnbgcmmlpniaaGreatDoor

namespace Go.Proofs.YtnlnbgcmmlpniaaGreatDoor
open Go.RowKit

theorem put_len {base n : Nat} {W : World} {A : Option Addr} {n2 c2 : Nat} {l m : List UInt8} (hO : OwnB base W A n2 c2 (l ++ m)) (hl : l.length = n) {q : Nat} (hm : m.length ≤ q) : n2 ≤ n + q := by
  have h1 := hO.len
  rw [List.length_append] at h1
  omega
theorem Oth.blk {w w' : World} (h : Oth w w') {b : Nat} {cs : Array Value} {t : TypeId} (ht : t ≠ 5) (hb : Blk w b cs t) : Blk w' b cs t := h b cs t ht hb

set_option maxRecDepth 100000 in
set_option maxHeartbeats 2000000 in
theorem putValue_any (base : Nat) (A : Option Addr) (n c : Nat) (l : List UInt8) (k x : Int) (s : ByteArray) (w : World) (hp : PreB base w A n c l) (hb : base ≤ w.heap.size) (hm : n ≤ 90000000000)
    (hk : k = 0 ∨ k = 1 ∨ k = 2) (h0 : -9223372036854775808 ≤ x) (h1 : x ≤ 9223372036854775807) (hs : s.size ≤ 1000000) :
    Calls Tryz.prog 116 #[.slice A n c, .agg #[.int .i64 k, .int .i64 x, .string s]] w fun e w' => PutO base w (l ++ valB k x s.data.toList) e w' := by
  have H0 := Lib.hid h0
  have H1 := Lib.hid h1
  have hl := hp.len
  clear h0 h1
  rcases hk with rfl | rfl | rfl
  all_goals
    go_enter Tryz.func116, Tryz.ntmps116
    go_wp2_with fail
  · have hC := blk_new w #[.int .i64 0, .int .i64 x, .string s] 59
    have hB := (Below.refl base w).alloc hb (.cells #[.int .i64 0, .int .i64 x, .string s] 59)
    have hp2 := hp.keep (b0 w (.cells #[.int .i64 0, .int .i64 x, .string s] 59))
    have hT := Oth.below (b0 w (.cells #[.int .i64 0, .int .i64 x, .string s] 59))
    clear hp
    generalize w.alloc (.cells #[.int .i64 0, .int .i64 x, .string s] 59) = W at hC hB hp2 hT ⊢
    have hbW := Nat.le_trans hb hB.size
    refine (putNumber_any base A n c l 0 W hp2 hbW (by omega) (by omega)).mono ?_
    rintro e w1 ⟨⟨A2, n2, d2, rfl, hO⟩, hb2, ht2⟩
    obtain ⟨q0, q1, q2, q3⟩ := (ht2.blk (by decide) hC).c3
    go_wp2_with fail
    go_ret
    exact ⟨⟨A2, n2, d2, rfl, by rw [valB_0]; exact hO⟩, hB.trans hb2, hT.trans ht2⟩
  · have hC := blk_new w #[.int .i64 1, .int .i64 x, .string s] 59
    have hB := (Below.refl base w).alloc hb (.cells #[.int .i64 1, .int .i64 x, .string s] 59)
    have hp2 := hp.keep (b0 w (.cells #[.int .i64 1, .int .i64 x, .string s] 59))
    have hT := Oth.below (b0 w (.cells #[.int .i64 1, .int .i64 x, .string s] 59))
    clear hp
    generalize w.alloc (.cells #[.int .i64 1, .int .i64 x, .string s] 59) = W at hC hB hp2 hT ⊢
    have hbW := Nat.le_trans hb hB.size
    refine (putNumber_any base A n c l 1 W hp2 hbW (by omega) (by omega)).mono ?_
    rintro e w1 ⟨⟨A2, n2, d2, rfl, hO⟩, hb2, ht2⟩
    have hC1 := ht2.blk (by decide) hC
    have hn2 := put_len hO hl (numB_small (n := 1) (by omega))
    obtain ⟨q0, q1, q2, q3⟩ := hC1.c3
    go_wp2_with fail
    refine (putInt_any base A2 n2 d2 _ x w1 (.inl hO) (Nat.le_trans hbW hb2.size) (by omega) H0.out H1.out).mono ?_
    rintro e w2 ⟨⟨A3, n3, d3, rfl, hO3⟩, hb3, ht3⟩
    clear q0 q1 q2 q3
    obtain ⟨q0, q1, q2, q3⟩ := (ht3.blk (by decide) hC1).c3
    go_wp2_with fail
    go_ret
    exact ⟨⟨A3, n3, d3, rfl, by rw [valB_1, ← List.append_assoc]; exact hO3⟩, hB.trans (hb2.trans hb3), hT.trans (ht2.trans ht3)⟩
  · have hC := blk_new w #[.int .i64 2, .int .i64 x, .string s] 59
    have hB := (Below.refl base w).alloc hb (.cells #[.int .i64 2, .int .i64 x, .string s] 59)
    have hp2 := hp.keep (b0 w (.cells #[.int .i64 2, .int .i64 x, .string s] 59))
    have hT := Oth.below (b0 w (.cells #[.int .i64 2, .int .i64 x, .string s] 59))
    clear hp
    generalize w.alloc (.cells #[.int .i64 2, .int .i64 x, .string s] 59) = W at hC hB hp2 hT ⊢
    have hbW := Nat.le_trans hb hB.size
    refine (putNumber_any base A n c l 2 W hp2 hbW (by omega) (by omega)).mono ?_
    rintro e w1 ⟨⟨A2, n2, d2, rfl, hO⟩, hb2, ht2⟩
    have hC1 := ht2.blk (by decide) hC
    have hn2 := put_len hO hl (numB_small (n := 2) (by omega))
    obtain ⟨q0, q1, q2, q3⟩ := hC1.c3
    go_wp2_with fail
    refine (putText_any base A2 n2 d2 _ s w1 (.inl hO) (Nat.le_trans hbW hb2.size) (by omega) (by omega)).mono ?_
    rintro e w2 ⟨⟨A3, n3, d3, rfl, hO3⟩, hb3, ht3⟩
    clear q0 q1 q2 q3
    obtain ⟨q0, q1, q2, q3⟩ := (ht3.blk (by decide) hC1).c3
    go_wp2_with fail
    go_ret
    exact ⟨⟨A3, n3, d3, rfl, by rw [valB_2, ← List.append_assoc]; exact hO3⟩, hB.trans (hb2.trans hb3), hT.trans (ht2.trans ht3)⟩

theorem valB_short {k n : Int} {s : ByteArray} (hk : k = 0 ∨ k = 1 ∨ k = 2) (h0 : -9223372036854775808 ≤ n) (h1 : n ≤ 9223372036854775807) (hs : s.size ≤ 1000) : (valB k n s.data.toList).length ≤ 2000000 :=
  Nat.le_trans (valB_small hk h0 h1 (by omega)) (by omega)

set_option maxRecDepth 100000 in
set_option maxHeartbeats 4000000 in
theorem putWrite_any (base : Nat) (A : Option Addr) (n c : Nat) (l : List UInt8) (x : Wr) (w : World) (hp : PreB base w A n c l) (hb : base ≤ w.heap.size) (hm : n ≤ 80000000000) (hg : x.good = true) (hf : x.fits) :
    Calls Tryz.prog 98 #[.slice A n c, .agg x.cells] w fun e w' => PutO base w (l ++ wB x) e w' := by
  obtain ⟨dev, seq, K, ky, ka, na, sa, kb, nb, sb⟩ := x
  obtain ⟨⟨d0, d1⟩, ⟨s0, s1⟩, ⟨k0, k1⟩, hky, ⟨hka, hsa⟩, ⟨hkb, hsb⟩⟩ := good_in hg
  obtain ⟨-, -, -, ⟨fa0, fa1⟩, fb0, fb1⟩ := hf
  dsimp only at d0 d1 s0 s1 k0 k1 hky hka hsa hkb hsb fa0 fa1 fb0 fb1
  have hl := hp.len
  have HA := Lib.hid (And.intro hka (And.intro fa0 fa1))
  have HB := Lib.hid (And.intro hkb (And.intro fb0 fb1))
  clear hka hkb fa0 fa1 fb0 fb1 hg
  have e1 : (dev : Int) = ((dev.toNat : Nat) : Int) := by omega
  have e2 : (seq : Int) = ((seq.toNat : Nat) : Int) := by omega
  have e3 : (K : Int) = ((K.toNat : Nat) : Int) := by omega
  have hE : Hid (l ++ numB dev.toNat ++ numB seq.toNat ++ numB K.toNat ++ textB ky.data.toList ++ valB ka na sa.data.toList ++ valB kb nb sb.data.toList = l ++ wB ⟨dev, seq, K, ky, ka, na, sa, kb, nb, sb⟩) := by
    show _ = _
    unfold wB wrB
    simp only [List.append_assoc]
  generalize hd' : dev.toNat = dv at e1 hE
  generalize hs' : seq.toNat = sq at e2 hE
  generalize hk' : K.toNat = Kn at e3 hE
  clear hd' hs' hk'
  subst e1 e2 e3
  have wd : IntKind.u64.wrap (dv : Int) = (dv : Int) := wrap_size (by omega)
  have wq : IntKind.u64.wrap (sq : Int) = (sq : Int) := wrap_size (by omega)
  have wk : IntKind.u64.wrap (Kn : Int) = (Kn : Int) := wrap_size (by omega)
  go_enter Tryz.func98, Tryz.ntmps98
  go_wp2_with fail
  have hC := blk_new w (wrI dv sq Kn ky ka na sa kb nb sb) 63
  have hB := (Below.refl base w).alloc hb (.cells (wrI dv sq Kn ky ka na sa kb nb sb) 63)
  have hp2 := hp.keep (b0 w (.cells (wrI dv sq Kn ky ka na sa kb nb sb) 63))
  have hT := Oth.below (b0 w (.cells (wrI dv sq Kn ky ka na sa kb nb sb) 63))
  clear hp
  generalize w.alloc (.cells (wrI dv sq Kn ky ka na sa kb nb sb) 63) = W at hC hB hp2 hT ⊢
  have hbW := Nat.le_trans hb hB.size
  generalize w.heap.size = b at hC ⊢
  refine (putNumber_any base A n c l dv W hp2 hbW (by omega) (by omega)).mono ?_
  rintro e w1 ⟨⟨A1, n1, c1, rfl, hO1⟩, hb1, ht1⟩
  have hC1 := ht1.blk (by decide) hC
  have hn1 := put_len hO1 hl (numB_small (n := dv) (by omega))
  have hB1 := hB.trans hb1
  have hT1 := hT.trans ht1
  have hz1 := Nat.le_trans hb hB1.size
  clear hC hp2 hb1 ht1 hB hT hbW hb
  obtain ⟨t0, t1, t2, t3, t4, t5, t6, t7, t8, t9, tl⟩ := blk_c10 hC1
  go_wp2_with fail
  refine (putNumber_any base A1 n1 c1 _ sq w1 (.inl hO1) hz1 (by omega) (by omega)).mono ?_
  rintro e w2 ⟨⟨A2, n2, c2, rfl, hO2⟩, hb2, ht2⟩
  have hC2 := ht2.blk (by decide) hC1
  have hn2 := put_len hO2 hO1.len (numB_small (n := sq) (by omega))
  have hB2 := hB1.trans hb2
  have hT2 := hT1.trans ht2
  have hz2 := Nat.le_trans hz1 hb2.size
  clear t0 t1 t2 t3 t4 t5 t6 t7 t8 t9 tl hC1 hO1 hb2 ht2 hB1 hT1 hz1
  obtain ⟨t0, t1, t2, t3, t4, t5, t6, t7, t8, t9, tl⟩ := blk_c10 hC2
  go_wp2_with fail
  refine (putNumber_any base A2 n2 c2 _ Kn w2 (.inl hO2) hz2 (by omega) (by omega)).mono ?_
  rintro e w3 ⟨⟨A3, n3, c3, rfl, hO3⟩, hb3, ht3⟩
  have hC3 := ht3.blk (by decide) hC2
  have hn3 := put_len hO3 hO2.len (numB_small (n := Kn) (by omega))
  have hB3 := hB2.trans hb3
  have hT3 := hT2.trans ht3
  have hz3 := Nat.le_trans hz2 hb3.size
  clear t0 t1 t2 t3 t4 t5 t6 t7 t8 t9 tl hC2 hO2 hb3 ht3 hB2 hT2 hz2
  obtain ⟨t0, t1, t2, t3, t4, t5, t6, t7, t8, t9, tl⟩ := blk_c10 hC3
  go_wp2_with fail
  refine (putText_any base A3 n3 c3 _ ky w3 (.inl hO3) hz3 (by omega) (by omega)).mono ?_
  rintro e w4 ⟨⟨A4, n4, c4, rfl, hO4⟩, hb4, ht4⟩
  have hC4 := ht4.blk (by decide) hC3
  have hn4 := put_len hO4 hO3.len (textB_small (s := ky) (by omega))
  have hB4 := hB3.trans hb4
  have hT4 := hT3.trans ht4
  have hz4 := Nat.le_trans hz3 hb4.size
  clear t0 t1 t2 t3 t4 t5 t6 t7 t8 t9 tl hC3 hO3 hb4 ht4 hB3 hT3 hz3
  obtain ⟨t0, t1, t2, t3, t4, t5, t6, t7, t8, t9, tl⟩ := blk_c10 hC4
  go_wp2_with fail
  refine (putValue_any base A4 n4 c4 _ ka na sa w4 (.inl hO4) hz4 (by omega) HA.out.1 HA.out.2.1 HA.out.2.2 (by omega)).mono ?_
  rintro e w5 ⟨⟨A5, n5, c5, rfl, hO5⟩, hb5, ht5⟩
  have hC5 := ht5.blk (by decide) hC4
  have hn5 := put_len hO5 hO4.len (valB_short HA.out.1 HA.out.2.1 HA.out.2.2 (show sa.size ≤ 1000 by omega))
  have hB5 := hB4.trans hb5
  have hT5 := hT4.trans ht5
  have hz5 := Nat.le_trans hz4 hb5.size
  clear t0 t1 t2 t3 t4 t5 t6 t7 t8 t9 tl hC4 hO4 hb5 ht5 hB4 hT4 hz4
  obtain ⟨t0, t1, t2, t3, t4, t5, t6, t7, t8, t9, tl⟩ := blk_c10 hC5
  go_wp2_with fail
  refine (putValue_any base A5 n5 c5 _ kb nb sb w5 (.inl hO5) hz5 (by omega) HB.out.1 HB.out.2.1 HB.out.2.2 (by omega)).mono ?_
  rintro e w6 ⟨⟨A6, n6, c6, rfl, hO6⟩, hb6, ht6⟩
  clear t0 t1 t2 t3 t4 t5 t6 t7 t8 t9 tl
  obtain ⟨t0, t1, t2, t3, t4, t5, t6, t7, t8, t9, tl⟩ := blk_c10 (ht6.blk (by decide) hC5)
  go_wp2_with fail
  go_ret
  exact ⟨⟨A6, n6, c6, rfl, by rw [← hE.out]; exact hO6⟩, hB5.trans hb6, hT5.trans ht6⟩
end Go.Proofs.YtnlnbgcmmlpniaaGreatDoor

namespace Go.Proofs.YtnlnbgcmmlpniaaGreatDoor
open Go.RowKit

/-- string(..) of bytes that are read. -/
theorem conv_rd {B : Nat} (W : World) (A : Option Addr) (n c : Nat) (l : List UInt8) (hn : l.length = n) (h : RdB B W A l) : (convert 29 9 (.slice A n c)).run Tryz.prog W = .ok (.string ⟨l.toArray⟩) W := by
  subst hn
  cases l with
  | nil =>
    cases A with
    | none => exact run_convert_bytes_nil W 29 5 Tryz.underlying29 Tryz.underlying5 0 c 9 Tryz.underlying9
    | some ad => exact run_convert_bytes_back W 29 9 5 ad c [] Tryz.underlying29 Tryz.underlying5 Tryz.underlying9 (fun j hj => absurd hj (by simp))
  | cons x t =>
    obtain ⟨ad, rfl, _, _⟩ := h 0 x rfl
    refine run_convert_bytes_back W 29 9 5 ad c (x :: t) Tryz.underlying29 Tryz.underlying5 Tryz.underlying9 ?_
    intro j hj
    obtain ⟨a2, e, _, hc⟩ := h j _ (List.getElem?_eq_getElem hj)
    injection e with e
    subst e
    exact hc
end Go.Proofs.YtnlnbgcmmlpniaaGreatDoor

namespace Go.Proofs.YtnlnbgcmmlpniaaGreatDoor
open Go.RowKit

/-- What the code reads of the package variables: errors.errorType, and pack's sentinel, whose text lies at S. -/
def LaidP (S : Addr) (W : World) : Prop :=
  W.cell? ⟨1, 0, none⟩ = some (.iface 197 (.agg #[.pointer (some ⟨2, 94, none⟩)])) ∧ W.cell? ⟨0, 0, none⟩ = some (.iface 231 (.pointer (some S)))
theorem LaidP.keep {S : Addr} {W W' : World} (h : LaidP S W) (hb : Below W.heap.size W W') : LaidP S W' :=
  ⟨(hb.cell (World.block_lt_of_cell? W _ h.1)).trans h.1, (hb.cell (World.block_lt_of_cell? W _ h.2)).trans h.2⟩
/-- What a reader has left; none: it has an error. -/
abbrev Rest := Option (List UInt8)
def numOf (st : Rest) (most : Nat) : Nat × Rest := match st with
  | none => (0, none)
  | some b => if (takeNum b most).2 = 0 then (0, none) else ((takeNum b most).1, some (b.drop (takeNum b most).2))
def intOfR (st : Rest) : Int × Rest := match st with
  | none => (0, none)
  | some b => if (takeIntB b).2 = 0 then (0, none) else ((takeIntB b).1, some (b.drop (takeIntB b).2))
def textOf (st : Rest) (most : Nat) : List UInt8 × Rest := match st with
  | none => ([], none)
  | some b => if (takeTextB b most).2 = 0 then ([], none) else ((takeTextB b most).1, some (b.drop (takeTextB b most).2))
def flagOf (st : Rest) : Bool × Rest := match st with
  | none => (false, none)
  | some b => if (takeFlagB b).2 = 0 then (false, none) else ((takeFlagB b).1, some (b.drop (takeFlagB b).2))
def endOf (st : Rest) : Int := match st with
  | some [] => 0
  | _ => 2
/-- Bytes that a call answered. -/
def PutR (w : World) (L : List UInt8) (e : Ending) (w' : World) : Prop :=
  (∃ (A : Option Addr) (n c : Nat), e = .returned (.slice A n c) ∧ L.length = n ∧ RdB w'.heap.size w' A L ∧ n ≤ c) ∧ Below w.heap.size w w'
/-- A write that is all nought. -/
abbrev wr0 : Value := .agg #[.int .i64 0, .int .i64 0, .int .i64 0, .string ⟨#[]⟩, .int .i64 0, .int .i64 0, .string ⟨#[]⟩, .int .i64 0, .int .i64 0, .string ⟨#[]⟩]
theorem below_g {w0 w w' : World} {g : Nat} (h : Below w0.heap.size w0 w) (hg : w.grownBy w' (some g)) (hle : w0.heap.size ≤ g) : Below w0.heap.size w0 w' :=
  h.grown hg h.size fun k hk => by
    injection hk with hk
    omega
end Go.Proofs.YtnlnbgcmmlpniaaGreatDoor

namespace Go.Proofs.YtnlnbgcmmlpniaaGreatDoor
open Go.RowKit

/-- A slice cut off at its front: its address, in one word. -/
def cutA (A : Option Addr) (c p : Nat) : Option Addr := if c = p then A else A.map (·.add p)
theorem run_cut (W : World) (A : Option Addr) (n c p : Nat) (h : p ≤ n) :
    (Instr.sliceAt 29 (.slice A n c) (some (.int .i64 (p : Int))) none none).run Tryz.prog W = .ok (.slice (cutA A c p) (n - p) (c - p)) W := by
  have h1 : (p : Int) ≤ (n : Int) := by omega
  unfold cutA
  go_simp
theorem run_cutI (W : World) (A : Option Addr) (n c p : Nat) (z : Int) (hz : z = (p : Int)) (h : p ≤ n) :
    (Instr.sliceAt 29 (.slice A n c) (some (.int .i64 z)) none none).run Tryz.prog W = .ok (.slice (cutA A c p) (n - p) (c - p)) W := by
  rw [hz]
  exact run_cut W A n c p h
theorem RdB.cut {B : Nat} {W : World} {A : Option Addr} {l : List UInt8} (h : RdB B W A l) {p c : Nat} (hc : l.length ≤ c) : RdB B W (cutA A c p) (l.drop p) := h.drop hc
/-- .. at both ends. -/
theorem run_cut2 (W : World) (A : Option Addr) (n c p q : Nat) (y z : Int) (hy : y = (p : Int)) (hz : z = (q : Int)) (h : p ≤ q) (hq : q ≤ n) (hc : n ≤ c) :
    (Instr.sliceAt 29 (.slice A n c) (some (.int .i64 y)) (some (.int .i64 z)) none).run Tryz.prog W = .ok (.slice (cutA A c p) (q - p) (c - p)) W := by
  have h1 : (p : Int) ≤ (q : Int) := by omega
  have h2 : (q : Int) ≤ (c : Int) := by omega
  rw [hy, hz]
  unfold cutA
  go_simp
/-- .. at its end. -/
theorem run_cut0 (W : World) (A : Option Addr) (n c q : Nat) (z : Int) (hz : z = (q : Int)) (hq : q ≤ n) (hc : n ≤ c) :
    (Instr.sliceAt 29 (.slice A n c) none (some (.int .i64 z)) none).run Tryz.prog W = .ok (.slice A q c) W := by
  have h2 : (q : Int) ≤ (c : Int) := by omega
  rw [hz]
  go_simp
theorem RdB.sub {B : Nat} {W : World} {A : Option Addr} {l : List UInt8} (h : RdB B W A l) {p c : Nat} (hc : l.length ≤ c) (m : Nat) : RdB B W (cutA A c p) ((l.drop p).take m) := (h.cut hc).take m
end Go.Proofs.YtnlnbgcmmlpniaaGreatDoor

namespace Go.Proofs.YtnlnbgcmmlpniaaGreatDoor
open Go.RowKit

theorem wrap_be {v n : Nat} (h : v * 256 + n < 18446744073709551616) : IntKind.u64.wrap (IntKind.u64.wrap ((v : Int) * 256) + IntKind.u64.wrap (n : Int)) = ((v * 256 + n : Nat) : Int) := by
  simp only [IntKind.wrap_u64]
  omega
theorem beV_take {t : List UInt8} {j : Nat} {x : UInt8} (h : t[j]? = some x) : beV (t.take (j + 1)) = beV (t.take j) * 256 + x.toNat := by
  have hj := (List.getElem?_eq_some_iff.1 h).1
  rw [List.take_succ_eq_append_getElem hj, beV_snoc]
  rw [List.getElem?_eq_getElem hj] at h
  injection h with h
  rw [h]
theorem beV_take_lt (t : List UInt8) (j : Nat) (h : j ≤ 8) : beV (t.take j) < 18446744073709551616 := by
  have h1 := beV_lt (t.take j)
  have h2 : (t.take j).length ≤ 8 := by rw [List.length_take]; omega
  have h3 : 256 ^ (t.take j).length ≤ 256 ^ 8 := Nat.pow_le_pow_right (by omega) h2
  rw [pow_eight] at h3
  omega
theorem RdB.cells {B : Nat} {W : World} {ad : Addr} {l : List UInt8} (h : RdB B W (some ad) l) {k : Nat} {x : UInt8} (hx : l[k]? = some x) : W.cell? (ad.add k) = some (.int .u8 (x.toNat : Int)) := by
  obtain ⟨a2, e, _, hc⟩ := h k x hx
  injection e with e
  subst e
  exact hc
theorem add_one_at (a : Addr) : a.add 1 = ⟨a.block, a.off + 1, none⟩ := rfl
/-- The pair that TakeNumber answers. -/
def TakeP (r : Nat × Nat) (w : World) (e : Ending) (w' : World) : Prop := e = .returned (.tuple #[.int .u64 (r.1 : Nat), .int .i64 (r.2 : Nat)]) ∧ Drn w w'

set_option maxRecDepth 100000 in
set_option maxHeartbeats 4000000 in
theorem refTakeNumber_any {B : Nat} (A : Option Addr) (n c : Nat) (l : List UInt8) (most : Nat) (w : World) (hn : l.length = n) (hr : RdB B w A l) (hm : n ≤ 1000000) (_hmost : most < 18446744073709551616) :
    Calls Tryz.prog 63 #[.slice A n c, .int .u64 most] w fun e w' => TakeP (takeNum l most) w e w' := by
  cases l with
  | nil =>
    have n0 : n = 0 := by rw [← hn]; rfl
    subst n0
    clear hn hm
    go_enter Tryz.func63, Tryz.ntmps63
    go_wp2_with fail
    go_ret2
    exact ⟨rfl, Drn.refl _⟩
  | cons c0 t =>
    obtain ⟨ad, rfl, _, hc0⟩ := hr 0 c0 rfl
    rw [show ad.add 0 = ad from rfl] at hc0
    have e0 : ((n : Int) == 0) = false := by
      rw [beq_eq_false_iff_ne]
      rw [List.length_cons] at hn
      omega
    have i0 : (0 : Int) < (n : Int) := by rw [List.length_cons] at hn; omega
    have hc := c0.toNat_lt
    rw [List.length_cons] at hn
    by_cases h8 : 8 < c0.toNat
    · have g8 : (8 : Int) < (c0.toNat : Int) := by omega
      have R : Hid (takeNum (c0 :: t) most = (0, 0)) := by show _ = _; rw [takeNum_cons, if_pos (Or.inl h8)]
      clear hn hm hc
      go_enter Tryz.func63, Tryz.ntmps63
      go_wp2_with fail
      go_ret2
      rw [R.out]
      exact ⟨rfl, Drn.refl _⟩
    · have g8 : (c0.toNat : Int) ≤ 8 := by omega
      have g1 : (0 : Int) ≤ (c0.toNat : Int) := by omega
      by_cases hl : t.length < c0.toNat
      · have gl : (n : Int) - 1 < (c0.toNat : Int) := by omega
        have R : Hid (takeNum (c0 :: t) most = (0, 0)) := by show _ = _; rw [takeNum_cons, if_pos (Or.inr (Or.inl hl))]
        have nb : (n : Int) ≤ 1000000 := by omega
        clear hn hm hc
        go_enter Tryz.func63, Tryz.ntmps63
        go_wp2_with fail
        go_ret2
        rw [R.out]
        exact ⟨rfl, Drn.refl _⟩
      · have gl : (c0.toNat : Int) ≤ (n : Int) - 1 := by omega
        have nb : (n : Int) ≤ 1000000 := by omega
        by_cases hz : 0 < c0.toNat ∧ t.head? = some 0
        · have hc1 := hr.cells (k := 1) (x := 0) (by
            rw [List.getElem?_cons_succ]
            rw [List.head?_eq_getElem?] at hz
            exact hz.2)
          have gz : (0 : Int) < (c0.toNat : Int) := by omega
          have gzN : 0 < c0.toNat := by omega
          have gn : (1 : Int) < (n : Int) := by omega
          have gnN : 1 < n := by omega
          have R : Hid (takeNum (c0 :: t) most = (0, 0)) := by show _ = _; rw [takeNum_cons, if_pos (Or.inr (Or.inr hz))]
          rw [show (((0 : UInt8).toNat : Nat) : Int) = 0 from rfl, add_one_at] at hc1
          clear hn hm hc hz
          go_enter Tryz.func63, Tryz.ntmps63
          go_wp2_with fail
          go_ret2
          rw [R.out]
          exact ⟨rfl, Drn.refl _⟩
        · have HG : Hid (¬ (8 < c0.toNat ∨ t.length < c0.toNat ∨ (0 < c0.toNat ∧ t.head? = some 0))) := by
            rintro (h | h | h)
            · exact h8 h
            · exact hl h
            · exact hz h
          by_cases hc00 : c0.toNat = 0
          · have gz : decide (0 < c0.toNat) = false := by simp; omega
            have HC := Lib.hid hc00
            clear hz hc00
            go_enter Tryz.func63, Tryz.ntmps63
            go_wp2_with fail
            go_loop [6, 7] (fun u i => ∃ j v : Nat, 1 ≤ j ∧ j ≤ c0.toNat + 1 ∧ u = .int .u64 v ∧ i = .int .i64 j ∧ Hid (v = beV (t.take (j - 1)))) (fun _ i => c0.toNat + 1 - (intOf i).toNat)
            case atStart => exact ⟨1, 0, Nat.le_refl _, by omega, rfl, rfl, rfl⟩
            case round =>
              obtain ⟨j, v, hj1, hj2, rfl, rfl, hV⟩ := hrel
              by_cases hj : j ≤ c0.toNat
              · have hjt : j - 1 < t.length := by omega
                have hx := List.getElem?_eq_getElem hjt
                generalize t[j - 1] = x at hx
                have hcx := hr.cells (k := j) (x := x) (by
                  have e : j = (j - 1) + 1 := by omega
                  rw [e, List.getElem?_cons_succ]
                  exact hx)
                have q1 : (0 : Int) ≤ (j : Int) := by omega
                have q2 : (j : Int) < (n : Int) := by omega
                have q3 : (j : Int) ≤ (c0.toNat : Int) := by omega
                have hvx : beV (t.take j) = v * 256 + x.toNat := by
                  have h := beV_take hx
                  rw [show j - 1 + 1 = j by omega] at h
                  rw [h, hV.out]
                have HW := Lib.hid (wrap_be (v := v) (n := x.toNat) (by rw [← hvx]; exact beV_take_lt t j (by omega)))
                have HV2 : Hid (v * 256 + x.toNat = beV (t.take (j + 1 - 1))) := hvx.symm
                clear hx hvx hV hjt
                go_wp2_with fail
                go_round
                case rel => exact ⟨j + 1, v * 256 + x.toNat, by omega, by omega, by rw [HW.out], by go_num, HV2⟩
                case measure => simp [intOf]; omega
              · have q3 : ¬ (j : Int) ≤ (c0.toNat : Int) := by omega
                have hv : v = beV (t.take c0.toNat) := by
                  rw [hV.out, show j - 1 = c0.toNat by omega]
                have HV := Lib.hid hv
                clear hv hV
                by_cases hmv : most < v
                · have g : (most : Int) < (v : Int) := by omega
                  have R : Hid (takeNum (c0 :: t) most = (0, 0)) := by
                    show _ = _
                    rw [takeNum_cons, if_neg HG.out, if_pos (by rw [← HV.out]; exact hmv)]
                  go_wp2_with fail
                  go_ret2
                  rw [R.out]
                  exact ⟨rfl, Drn.refl _⟩
                · have g : (v : Int) ≤ (most : Int) := by omega
                  have R : Hid (takeNum (c0 :: t) most = (v, 1 + c0.toNat)) := by
                    show _ = _
                    rw [takeNum_cons, if_neg HG.out, if_neg (by rw [← HV.out]; exact hmv), ← HV.out]
                  have w1 : IntKind.i64.wrap (1 + (c0.toNat : Int)) = 1 + (c0.toNat : Int) := IntWalk.i64_in _ (by omega)
                  clear hmv hj hj1 hj2
                  go_wp2_with fail
                  go_quiet (fail)
                  go_wp2_with fail
                  go_ret2
                  rw [R.out]
                  exact ⟨rfl, (Drn.refl _).draws _⟩
          · have gz : (0 : Int) < (c0.toNat : Int) := by omega
            have gzN : 0 < c0.toNat := by omega
            have gn : (1 : Int) < (n : Int) := by omega
            have gnN : 1 < n := by omega
            have ht0 : 0 < t.length := by omega
            have hx1 := List.getElem?_eq_getElem ht0
            generalize t[0] = x1 at hx1
            have hc1 := hr.cells (k := 1) (x := x1) (by rw [List.getElem?_cons_succ]; exact hx1)
            rw [add_one_at] at hc1
            have gx : ((x1.toNat : Int) == 0) = false := by
              rw [beq_eq_false_iff_ne]
              intro e
              refine hz ⟨by omega, ?_⟩
              rw [List.head?_eq_getElem?, hx1]
              congr 1
              exact UInt8.toNat_inj.1 (by show _ = 0; omega)
            clear hz hx1 ht0
            go_enter Tryz.func63, Tryz.ntmps63
            go_wp2_with fail
            go_loop [6, 7] (fun u i => ∃ j v : Nat, 1 ≤ j ∧ j ≤ c0.toNat + 1 ∧ u = .int .u64 v ∧ i = .int .i64 j ∧ Hid (v = beV (t.take (j - 1)))) (fun _ i => c0.toNat + 1 - (intOf i).toNat)
            case atStart => exact ⟨1, 0, Nat.le_refl _, by omega, rfl, rfl, rfl⟩
            case round =>
              obtain ⟨j, v, hj1, hj2, rfl, rfl, hV⟩ := hrel
              by_cases hj : j ≤ c0.toNat
              · have hjt : j - 1 < t.length := by omega
                have hx := List.getElem?_eq_getElem hjt
                generalize t[j - 1] = x at hx
                have hcx := hr.cells (k := j) (x := x) (by
                  have e : j = (j - 1) + 1 := by omega
                  rw [e, List.getElem?_cons_succ]
                  exact hx)
                have q1 : (0 : Int) ≤ (j : Int) := by omega
                have q2 : (j : Int) < (n : Int) := by omega
                have q3 : (j : Int) ≤ (c0.toNat : Int) := by omega
                have hvx : beV (t.take j) = v * 256 + x.toNat := by
                  have h := beV_take hx
                  rw [show j - 1 + 1 = j by omega] at h
                  rw [h, hV.out]
                have HW := Lib.hid (wrap_be (v := v) (n := x.toNat) (by rw [← hvx]; exact beV_take_lt t j (by omega)))
                have HV2 : Hid (v * 256 + x.toNat = beV (t.take (j + 1 - 1))) := hvx.symm
                clear hx hvx hV hjt
                go_wp2_with fail
                go_round
                case rel => exact ⟨j + 1, v * 256 + x.toNat, by omega, by omega, by rw [HW.out], by go_num, HV2⟩
                case measure => simp [intOf]; omega
              · have q3 : ¬ (j : Int) ≤ (c0.toNat : Int) := by omega
                have hv : v = beV (t.take c0.toNat) := by
                  rw [hV.out, show j - 1 = c0.toNat by omega]
                have HV := Lib.hid hv
                clear hv hV
                by_cases hmv : most < v
                · have g : (most : Int) < (v : Int) := by omega
                  have R : Hid (takeNum (c0 :: t) most = (0, 0)) := by
                    show _ = _
                    rw [takeNum_cons, if_neg HG.out, if_pos (by rw [← HV.out]; exact hmv)]
                  go_wp2_with fail
                  go_ret2
                  rw [R.out]
                  exact ⟨rfl, Drn.refl _⟩
                · have g : (v : Int) ≤ (most : Int) := by omega
                  have R : Hid (takeNum (c0 :: t) most = (v, 1 + c0.toNat)) := by
                    show _ = _
                    rw [takeNum_cons, if_neg HG.out, if_neg (by rw [← HV.out]; exact hmv), ← HV.out]
                  have w1 : IntKind.i64.wrap (1 + (c0.toNat : Int)) = 1 + (c0.toNat : Int) := IntWalk.i64_in _ (by omega)
                  clear hmv hj hj1 hj2
                  go_wp2_with fail
                  go_quiet (fail)
                  go_wp2_with fail
                  go_ret2
                  rw [R.out]
                  exact ⟨rfl, (Drn.refl _).draws _⟩
end Go.Proofs.YtnlnbgcmmlpniaaGreatDoor
