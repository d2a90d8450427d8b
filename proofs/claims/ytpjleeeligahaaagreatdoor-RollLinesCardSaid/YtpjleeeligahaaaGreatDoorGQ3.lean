/-
  WHAT IS PROVED: the document's bytes of good writes (spinneyref05.Write). Conditions: those typed in the theorem. · words for slices of writes (own work): a slice that reads as a list of writes, nil let in; the document's Good of ids, of writes, of lists of writes. Conditions: those typed in each theorem. · words for slices of writes (own work): a slice that reads as a list of writes, nil let in; the document's Good of lists of writes. Conditions: those typed in each theorem. · an argument that is a slice of writes, opened (own work, over any program that bears the types named). · words for arrays of twelve numbers: as a list, in a block, loaded whole or by a cell. Conditions: those typed in each theorem.
-/
import Derived.Test.YtpjleeeligahaaaGreatDoorGQ2
import Derived.Deep.RegionHeld3
import Derived.Deep.DrawnRows
import Derived.Test.YtpjleeeligahaaaGreatDoorGQ1
import Derived.Lib.SmallJoins
import Derived.Deep.Slices
import Derived.Deep.MidRow
namespace Go.Proofs.YtpjleeeligahaaaGreatDoor
open Go.RowKit
attribute [local go_sem ↓] Go.wp_at_zero Go.wp_at_succ

/-- A write as a value, and as cells. -/
abbrev wrC (dev seq : Nat) (K : Nat) (ky : ByteArray) (ka na : Int) (sa : ByteArray) (kb nb : Int) (sb : ByteArray) : Array Value :=
  #[.int .i64 dev, .int .i64 seq, .int .i64 K, .string ky, .int .i64 ka, .int .i64 na, .string sa, .int .i64 kb, .int .i64 nb, .string sb]
/-- Its bytes. -/
def wrB (dev seq K : Nat) (ky : List UInt8) (ka na : Int) (sa : List UInt8) (kb nb : Int) (sb : List UInt8) : List UInt8 :=
  numB dev ++ numB seq ++ numB K ++ textB ky ++ valB ka na sa ++ valB kb nb sb
/-- The ten cells of a block. -/
def Ten (W : World) (b : Nat) (dev seq : Nat) (K : Nat) (ky : ByteArray) (ka na : Int) (sa : ByteArray) (kb nb : Int) (sb : ByteArray) : Prop :=
  W.cell? ⟨b, 0, none⟩ = some (.int .i64 dev) ∧ W.cell? ⟨b, 1, none⟩ = some (.int .i64 seq) ∧ W.cell? ⟨b, 2, none⟩ = some (.int .i64 K) ∧ W.cell? ⟨b, 3, none⟩ = some (.string ky) ∧ W.cell? ⟨b, 4, none⟩ = some (.int .i64 ka) ∧
    W.cell? ⟨b, 5, none⟩ = some (.int .i64 na) ∧ W.cell? ⟨b, 6, none⟩ = some (.string sa) ∧ W.cell? ⟨b, 7, none⟩ = some (.int .i64 kb) ∧ W.cell? ⟨b, 8, none⟩ = some (.int .i64 nb) ∧ W.cell? ⟨b, 9, none⟩ = some (.string sb)
theorem Ten.keep {W W' : World} {b dev seq K : Nat} {ky : ByteArray} {ka na : Int} {sa : ByteArray} {kb nb : Int} {sb : ByteArray} (h : Ten W b dev seq K ky ka na sa kb nb sb) {B : Nat} (hb : Below B W W') (hB : b < B) : Ten W' b dev seq K ky ka na sa kb nb sb := by
  have hc : ∀ i, W'.cell? ⟨b, i, none⟩ = W.cell? ⟨b, i, none⟩ := fun i => hb.cell (p := ⟨b, i, none⟩) hB
  unfold Ten at h ⊢
  simp only [hc]
  exact h
theorem ten_new (w : World) (dev seq K : Nat) (ky : ByteArray) (ka na : Int) (sa : ByteArray) (kb nb : Int) (sb : ByteArray) (t : TypeId) : Ten (w.alloc (.cells (wrC dev seq K ky ka na sa kb nb sb) t)) w.heap.size dev seq K ky ka na sa kb nb sb := by
  have h := blk_new w (wrC dev seq K ky ka na sa kb nb sb) t
  exact ⟨h.cell 0, h.cell 1, h.cell 2, h.cell 3, h.cell 4, h.cell 5, h.cell 6, h.cell 7, h.cell 8, h.cell 9⟩
theorem OwnB.keepG {base : Nat} {W W' : World} {A A3 : Option Addr} {n c : Nat} {l : List UInt8} (h : OwnB base W A n c l) (hg : W.grownBy W' (A3.map (·.block))) (hlt : ∀ a, A3 = some a → a.block < base) : OwnB base W' A n c l := by
  refine World.ownsRow.kept h hg ?_
  cases A with
  | none => exact Or.inl rfl
  | some a =>
    right
    cases A3 with
    | none => simp [Value.ownBlock]
    | some a3 =>
      have h1 := (h.blk rfl).1
      have h2 := hlt a3 rfl
      simp only [Value.ownBlock, Option.map_some, ne_eq, Option.some.injEq]
      omega
theorem below_h {H : Nat} {w w' : World} (h : Below w.heap.size w w') (hH : H ≤ w.heap.size) : Below H w w' := h.mono hH

section
variable {W w' w1 : World} {p q : Addr} {u v : Value} {H : Nat}
theorem sP0 (h : W.cell? p = some u) (k : W.cell? q = some v) : W.drew.cell? p = some u ∧ W.drew.cell? q = some v ∧ Below W.heap.size W W.drew := ⟨h, k, (Below.refl _ _).drew⟩
theorem sP1 (h : w'.cell? p = some u ∧ w'.cell? q = some v ∧ Below H W w') (hp : p.block < H) (hq : q.block < H) (hH : H ≤ W.heap.size) (hb : Below w'.heap.size w' w1) : w1.cell? p = some u ∧ w1.cell? q = some v ∧ Below H W w1 := by
  have hz := h.2.2.size
  exact ⟨(hb.cell (by omega)).trans h.1, (hb.cell (by omega)).trans h.2.1, h.2.2.trans (hb.mono (by omega))⟩
theorem sP2 (h : w'.cell? p = some u ∧ w'.cell? q = some v ∧ Below H W w') (hp : p.block < H) (hq : q.block < H) (hb : Below H w' w1) : w1.cell? p = some u ∧ w1.cell? q = some v ∧ Below H W w1 :=
  ⟨(hb.cell hp).trans h.1, (hb.cell hq).trans h.2.1, h.2.2.trans hb⟩
theorem lessP {A : Option Addr} {n c : Nat} {l : List UInt8} (h : OwnB w'.heap.size w1 A n c l) (hS : w'.cell? p = some u ∧ w'.cell? q = some v ∧ Below H W w') (hH : H ≤ W.heap.size) : OwnB H w1 A n c l := h.less (Nat.le_trans hH hS.2.2.size)
theorem szP (hS : w'.cell? p = some u ∧ w'.cell? q = some v ∧ Below H W w') (hH : H ≤ W.heap.size) : H ≤ w'.heap.size := Nat.le_trans hH hS.2.2.size
end
section
variable {W W0 w' w1 : World} {p q : Addr} {u v : Value} {H b : Nat} {v4 v5 v6 v7 v8 v9 : Value}
theorem sQ0 (h : W.cell? p = some u) (k : W.cell? q = some v) (hB : Below H W0 W) : W.drew.cell? p = some u ∧ W.drew.cell? q = some v ∧ Below H W0 W.drew := ⟨h, k, hB.drew⟩
/-- Six cells, from the fifth on. -/
theorem s60 (h : W.cell? ⟨b, 4, none⟩ = some v4 ∧ W.cell? ⟨b, 5, none⟩ = some v5 ∧ W.cell? ⟨b, 6, none⟩ = some v6 ∧ W.cell? ⟨b, 7, none⟩ = some v7 ∧ W.cell? ⟨b, 8, none⟩ = some v8 ∧ W.cell? ⟨b, 9, none⟩ = some v9) (hB : Below H W0 W) :
    W.drew.cell? ⟨b, 4, none⟩ = some v4 ∧ W.drew.cell? ⟨b, 5, none⟩ = some v5 ∧ W.drew.cell? ⟨b, 6, none⟩ = some v6 ∧ W.drew.cell? ⟨b, 7, none⟩ = some v7 ∧ W.drew.cell? ⟨b, 8, none⟩ = some v8 ∧ W.drew.cell? ⟨b, 9, none⟩ = some v9 ∧ Below H W0 W.drew := ⟨h.1, h.2.1, h.2.2.1, h.2.2.2.1, h.2.2.2.2.1, h.2.2.2.2.2, hB.drew⟩
theorem s62 (h : w'.cell? ⟨b, 4, none⟩ = some v4 ∧ w'.cell? ⟨b, 5, none⟩ = some v5 ∧ w'.cell? ⟨b, 6, none⟩ = some v6 ∧ w'.cell? ⟨b, 7, none⟩ = some v7 ∧ w'.cell? ⟨b, 8, none⟩ = some v8 ∧ w'.cell? ⟨b, 9, none⟩ = some v9 ∧ Below H W0 w') (hp : b < H) (hb : Below H w' w1) :
    w1.cell? ⟨b, 4, none⟩ = some v4 ∧ w1.cell? ⟨b, 5, none⟩ = some v5 ∧ w1.cell? ⟨b, 6, none⟩ = some v6 ∧ w1.cell? ⟨b, 7, none⟩ = some v7 ∧ w1.cell? ⟨b, 8, none⟩ = some v8 ∧ w1.cell? ⟨b, 9, none⟩ = some v9 ∧ Below H W0 w1 := by
  have hc : ∀ i, w1.cell? ⟨b, i, none⟩ = w'.cell? ⟨b, i, none⟩ := fun i => hb.cell (p := ⟨b, i, none⟩) hp
  simp only [hc]
  exact ⟨h.1, h.2.1, h.2.2.1, h.2.2.2.1, h.2.2.2.2.1, h.2.2.2.2.2.1, h.2.2.2.2.2.2.trans hb⟩
theorem s61 (h : w'.cell? ⟨b, 4, none⟩ = some v4 ∧ w'.cell? ⟨b, 5, none⟩ = some v5 ∧ w'.cell? ⟨b, 6, none⟩ = some v6 ∧ w'.cell? ⟨b, 7, none⟩ = some v7 ∧ w'.cell? ⟨b, 8, none⟩ = some v8 ∧ w'.cell? ⟨b, 9, none⟩ = some v9 ∧ Below H W0 w') (hp : b < H) (hH : H ≤ W0.heap.size) (hb : Below w'.heap.size w' w1) :
    w1.cell? ⟨b, 4, none⟩ = some v4 ∧ w1.cell? ⟨b, 5, none⟩ = some v5 ∧ w1.cell? ⟨b, 6, none⟩ = some v6 ∧ w1.cell? ⟨b, 7, none⟩ = some v7 ∧ w1.cell? ⟨b, 8, none⟩ = some v8 ∧ w1.cell? ⟨b, 9, none⟩ = some v9 ∧ Below H W0 w1 :=
  s62 h hp (hb.mono (Nat.le_trans hH h.2.2.2.2.2.2.size))
theorem b6 (h : w'.cell? ⟨b, 4, none⟩ = some v4 ∧ w'.cell? ⟨b, 5, none⟩ = some v5 ∧ w'.cell? ⟨b, 6, none⟩ = some v6 ∧ w'.cell? ⟨b, 7, none⟩ = some v7 ∧ w'.cell? ⟨b, 8, none⟩ = some v8 ∧ w'.cell? ⟨b, 9, none⟩ = some v9 ∧ Below H W0 w') : Below H W0 w' := h.2.2.2.2.2.2
end
theorem ten_tail {W w' : World} {b K : Nat} {ky : ByteArray} {ka na : Int} {sa : ByteArray} {kb nb : Int} {sb : ByteArray}
    (h : W.cell? ⟨b, 2, none⟩ = some (.int .i64 K) ∧ W.cell? ⟨b, 3, none⟩ = some (.string ky) ∧ W.cell? ⟨b, 4, none⟩ = some (.int .i64 ka) ∧ W.cell? ⟨b, 5, none⟩ = some (.int .i64 na) ∧ W.cell? ⟨b, 6, none⟩ = some (.string sa) ∧ W.cell? ⟨b, 7, none⟩ = some (.int .i64 kb) ∧ W.cell? ⟨b, 8, none⟩ = some (.int .i64 nb) ∧ W.cell? ⟨b, 9, none⟩ = some (.string sb))
    {H : Nat} (hb : Below H W w') (hB : b < H) : w'.cell? ⟨b, 2, none⟩ = some (.int .i64 K) ∧ w'.cell? ⟨b, 3, none⟩ = some (.string ky) ∧ w'.cell? ⟨b, 4, none⟩ = some (.int .i64 ka) ∧ w'.cell? ⟨b, 5, none⟩ = some (.int .i64 na) ∧ w'.cell? ⟨b, 6, none⟩ = some (.string sa) ∧ w'.cell? ⟨b, 7, none⟩ = some (.int .i64 kb) ∧ w'.cell? ⟨b, 8, none⟩ = some (.int .i64 nb) ∧ w'.cell? ⟨b, 9, none⟩ = some (.string sb) := by
  have hc : ∀ i, w'.cell? ⟨b, i, none⟩ = W.cell? ⟨b, i, none⟩ := fun i => hb.cell (p := ⟨b, i, none⟩) hB
  simp only [hc]
  exact h
theorem six_keep {W w1 w2 : World} {b H : Nat} {v4 v5 v6 v7 v8 v9 : Value} (h : w1.cell? ⟨b, 4, none⟩ = some v4 ∧ w1.cell? ⟨b, 5, none⟩ = some v5 ∧ w1.cell? ⟨b, 6, none⟩ = some v6 ∧ w1.cell? ⟨b, 7, none⟩ = some v7 ∧ w1.cell? ⟨b, 8, none⟩ = some v8 ∧ w1.cell? ⟨b, 9, none⟩ = some v9)
    (h1 : Below H W w1) (h2 : Below H W w2) (hB : b < H) : w2.cell? ⟨b, 4, none⟩ = some v4 ∧ w2.cell? ⟨b, 5, none⟩ = some v5 ∧ w2.cell? ⟨b, 6, none⟩ = some v6 ∧ w2.cell? ⟨b, 7, none⟩ = some v7 ∧ w2.cell? ⟨b, 8, none⟩ = some v8 ∧ w2.cell? ⟨b, 9, none⟩ = some v9 := by
  have hc : ∀ i, w2.cell? ⟨b, i, none⟩ = w1.cell? ⟨b, i, none⟩ := fun i => (h2.cell (p := ⟨b, i, none⟩) hB).trans (h1.cell (p := ⟨b, i, none⟩) hB).symm
  simp only [hc]
  exact h
theorem refPText_b (s : ByteArray) (w : World) (hs : s.size ≤ 1000) : Calls Tryz.prog 78 #[.string s] w fun e w' => (∃ (A : Option Addr) (m c : Nat), e = .returned (.slice A m c) ∧ OwnB w.heap.size w' A m c (textB s.data.toList) ∧ m ≤ 1000009) ∧ Below w.heap.size w w' :=
  (refPText_any s w (by omega)).mono fun _ _ ⟨⟨A, m, c, he, hO⟩, hb⟩ => ⟨⟨A, m, c, he, hO, by have := textB_small (s := s) (by omega); have := hO.len; omega⟩, hb⟩
theorem valB_small {k n : Int} {s : ByteArray} (hk : k = 0 ∨ k = 1 ∨ k = 2) (h0 : -9223372036854775808 ≤ n) (h1 : n ≤ 9223372036854775807) (hs : s.size ≤ 1000000) : (valB k n s.data.toList).length ≤ 1000018 := by
  rcases hk with rfl | rfl | rfl
  · rw [valB_0]
    have := numB_small (n := 0) (by omega)
    omega
  · rw [valB_1, List.length_append]
    have := numB_small (n := 1) (by omega)
    have := numB_small (zig_lt h0 h1)
    omega
  · rw [valB_2, List.length_append]
    have := numB_small (n := 2) (by omega)
    have := textB_small hs
    omega
theorem refPValue_b (k n : Int) (s : ByteArray) (w : World) (hk : k = 0 ∨ k = 1 ∨ k = 2) (h0 : -9223372036854775808 ≤ n) (h1 : n ≤ 9223372036854775807) (hs : s.size ≤ 1000) :
    Calls Tryz.prog 79 #[.agg #[.int .i64 k, .int .i64 n, .string s]] w fun e w' => (∃ (A : Option Addr) (m c : Nat), e = .returned (.slice A m c) ∧ OwnB w.heap.size w' A m c (valB k n s.data.toList) ∧ m ≤ 1000018) ∧ Below w.heap.size w w' :=
  (refPValue_any k n s w hk h0 h1 (by omega)).mono fun _ _ ⟨⟨A, m, c, he, hO⟩, hb⟩ => ⟨⟨A, m, c, he, hO, by have := valB_small (s := s) hk h0 h1 (by omega); have := hO.len; omega⟩, hb⟩
theorem refNumber_b (n : Nat) (w : World) (hn : n ≤ 1000) : Calls Tryz.prog 36 #[.int .u64 n] w fun e w' => (∃ (A : Option Addr) (m c : Nat), e = .returned (.slice A m c) ∧ OwnB w.heap.size w' A m c (numB n) ∧ m ≤ 9) ∧ Below w.heap.size w w' :=
  (refNumber_any n w (by omega)).mono fun _ _ ⟨⟨A, m, c, he, hO⟩, hb⟩ => ⟨⟨A, m, c, he, hO, by have := numB_small (n := n) (by omega); have := hO.len; omega⟩, hb⟩

set_option maxRecDepth 100000 in
set_option maxHeartbeats 8000000 in
theorem refPWrite_any (dev seq K : Nat) (ky : ByteArray) (ka na : Int) (sa : ByteArray) (kb nb : Int) (sb : ByteArray) (w : World) (hd : dev ≤ 1000) (hq : seq ≤ 1000) (hK : K ≤ 1000) (hky : ky.size ≤ 1000)
    (hka : ka = 0 ∨ ka = 1 ∨ ka = 2) (ha0 : -9223372036854775808 ≤ na) (ha1 : na ≤ 9223372036854775807) (hsa : sa.size ≤ 1000) (hkb : kb = 0 ∨ kb = 1 ∨ kb = 2) (hb0 : -9223372036854775808 ≤ nb) (hb1 : nb ≤ 9223372036854775807) (hsb : sb.size ≤ 1000) :
    Calls Tryz.prog 37 #[.agg (wrC dev seq K ky ka na sa kb nb sb)] w fun e w' => PutP w (wrB dev seq K ky.data.toList ka na sa.data.toList kb nb sb.data.toList) e w' := by
  obtain ⟨i0, hi0, hz0, hz1, hz2⟩ := info_parts byt_info
  have HVa := Lib.hid (fun W => refPValue_b ka na sa W hka ha0 ha1 hsa)
  have HVb := Lib.hid (fun W => refPValue_b kb nb sb W hkb hb0 hb1 hsb)
  have d0 : (0 : Int) ≤ (dev : Int) := by omega
  have d1 : (dev : Int) ≤ 1000 := by omega
  have s0 : (0 : Int) ≤ (seq : Int) := by omega
  have s1 : (seq : Int) ≤ 1000 := by omega
  have k0 : (0 : Int) ≤ (K : Int) := by omega
  have k1 : (K : Int) ≤ 1000 := by omega
  clear hka hkb ha0 ha1 hb0 hb1
  go_enter Tryz.func37, Tryz.ntmps37
  go_wp2_with fail
  have hT := ten_new w dev seq K ky ka na sa kb nb sb 47
  have hB := b0 w (.cells (wrC dev seq K ky ka na sa kb nb sb) 47)
  have hlt : w.heap.size < (w.alloc (.cells (wrC dev seq K ky ka na sa kb nb sb) 47)).heap.size := by simp
  generalize w.alloc (.cells (wrC dev seq K ky ka na sa kb nb sb) 47) = W at hT hB hlt ⊢
  have HB := Lib.hid hB
  clear hB
  generalize w.heap.size = b at hT hlt ⊢
  obtain ⟨t0, t1, t2⟩ := hT
  have T2 := Lib.hid t2
  clear t2
  have hle := Nat.le_refl W.heap.size
  have wd : IntKind.u64.wrap (dev : Int) = (dev : Int) := wrap_size (by omega)
  have wq : IntKind.u64.wrap (seq : Int) = (seq : Int) := wrap_size (by omega)
  go_region_held3 (fun w' => w'.cell? ⟨b, 0, none⟩ = some (.int .i64 dev) ∧ w'.cell? ⟨b, 1, none⟩ = some (.int .i64 seq) ∧ Below W.heap.size W w')
    (first | assumption | exact sP0 t0 t1 | exact sP2 (by assumption) hlt hlt (by assumption) | exact sP1 (by assumption) hlt hlt hle (by assumption))
    (first
      | (go_at_call 36; ((with_reducible refine (refNumber_b dev _ hd).mono ?_); rintro e w1 ⟨⟨A1, m1, c1, rfl, hO1, hm1⟩, hb1⟩; replace hO1 := lessP hO1 (by assumption) hle; try replace hO2 := hO2.keep hb1))
      | (go_at_call 36; ((with_reducible refine (refNumber_b seq _ hq).mono ?_); rintro e w2 ⟨⟨A2, m2, c2, rfl, hO2, hm2⟩, hb2⟩; replace hO2 := lessP hO2 (by assumption) hle; try replace hO1 := hO1.keep hb2))
      | (refine step_apB (o := ⟨some 14, _, _, _, _, _⟩) (base := W.heap.size) (n := m1) (m := m2) (l := numB dev) (l2 := numB seq) (by rfl) _ _ (by rfl) Tryz.underlying23 Tryz.underlying23 hi0 hz0 hz1 hz2 (by rfl) (by rfl) hO1 hO2.rd hO2.len (m1 + m2) rfl (by omega) (szP (by assumption) hle) ?_; intro A3 c3 w3 hO3 hb3 hg3))
  have hS1 := (by assumption : _ ∧ _ ∧ Below W.heap.size W w3).2.2
  obtain ⟨t2, t3, t4⟩ := ten_tail T2.out hS1 hlt
  have T4 := Lib.hid t4
  have hn3 : m1 + m2 ≤ 18 := by omega
  clear hO1 hO2 hb1 hb2 hb3 hg3 t0 t1 T2 t4 wd wq hm1 hm2
  generalize m1 + m2 = n3 at hO3 hn3 ⊢
  have wK : IntKind.u64.wrap (K : Int) = (K : Int) := wrap_size (by omega)
  go_wp2_with fail
  replace hO3 := hO3.drew_
  go_region_held3 (fun w' => w'.cell? ⟨b, 2, none⟩ = some (.int .i64 K) ∧ w'.cell? ⟨b, 3, none⟩ = some (.string ky) ∧ Below W.heap.size W w')
    (first | assumption | exact sQ0 t2 t3 hS1 | exact sP2 (by assumption) hlt hlt (by assumption) | exact sP1 (by assumption) hlt hlt hle (by assumption))
    (first
      | (go_at_call 36; ((with_reducible refine (refNumber_b K _ hK).mono ?_); rintro e w4 ⟨⟨A4, m4, c4, rfl, hO4, hm4⟩, hb4⟩; replace hO4 := lessP hO4 (by assumption) hle; replace hO3 := hO3.keep hb4))
      | (refine step_apB (o := ⟨some 21, _, _, _, _, _⟩) (base := W.heap.size) (n := n3) (m := m4) (l := numB dev ++ numB seq) (l2 := numB K) (by rfl) _ _ (by rfl) Tryz.underlying23 Tryz.underlying23 hi0 hz0 hz1 hz2 (by rfl) (by rfl) hO3 hO4.rd hO4.len (n3 + m4) rfl (by omega) (szP (by assumption) hle) ?_; intro A5 c5 w5 hO5 hb5 hg5)
      | (go_at_call 78; ((with_reducible refine (refPText_b ky _ hky).mono ?_); rintro e w6 ⟨⟨A6, m6, c6, rfl, hO6, hm6⟩, hb6⟩; replace hO6 := lessP hO6 (by assumption) hle; replace hO5 := hO5.keep hb6))
      | (refine step_apB (o := ⟨some 26, _, _, _, _, _⟩) (base := W.heap.size) (n := n3 + m4) (m := m6) (l := numB dev ++ numB seq ++ numB K) (l2 := textB ky.data.toList) (by rfl) _ _ (by rfl) Tryz.underlying23 Tryz.underlying23 hi0 hz0 hz1 hz2 (by rfl) (by rfl) hO5 hO6.rd hO6.len (n3 + m4 + m6) rfl (by omega) (szP (by assumption) hle) ?_; intro A7 c7 w7 hO7 hb7 hg7))
  have hS2 := (by assumption : _ ∧ _ ∧ Below W.heap.size W w7).2.2
  have t5 := six_keep T4.out hS1 hS2 hlt
  have hn7 : n3 + m4 + m6 ≤ 1000050 := by omega
  clear hO3 hO4 hO5 hO6 hb4 hb5 hb6 hb7 hg5 hg7 t2 t3 wK hm4 hm6 hS1
  generalize n3 + m4 + m6 = n7 at hO7 hn7 ⊢
  have T5 := Lib.hid t5
  clear t5 T4
  go_wp2_with fail
  replace hO7 := hO7.drew_
  go_region_held3 (fun w' => w'.cell? ⟨b, 4, none⟩ = some (.int .i64 ka) ∧ w'.cell? ⟨b, 5, none⟩ = some (.int .i64 na) ∧ w'.cell? ⟨b, 6, none⟩ = some (.string sa) ∧ w'.cell? ⟨b, 7, none⟩ = some (.int .i64 kb) ∧ w'.cell? ⟨b, 8, none⟩ = some (.int .i64 nb) ∧ w'.cell? ⟨b, 9, none⟩ = some (.string sb) ∧ Below W.heap.size W w')
    (first | assumption | exact s60 T5.out hS2 | exact s62 (by assumption) hlt (by assumption) | exact s61 (by assumption) hlt hle (by assumption))
    (first
      | (go_at_call 79; ((with_reducible refine (HVa.out _).mono ?_); rintro e w8 ⟨⟨A8, m8, c8, rfl, hO8, hm8⟩, hb8⟩; replace hO8 := hO8.less (Nat.le_trans hle (b6 (by assumption)).size); replace hO7 := hO7.keep hb8))
      | (refine step_apB (o := ⟨some 32, _, _, _, _, _⟩) (base := W.heap.size) (n := n7) (m := m8) (l := numB dev ++ numB seq ++ numB K ++ textB ky.data.toList) (l2 := valB ka na sa.data.toList) (by rfl) _ _ (by rfl) Tryz.underlying23 Tryz.underlying23 hi0 hz0 hz1 hz2 (by rfl) (by rfl) hO7 hO8.rd hO8.len (n7 + m8) rfl (by omega) (b6 (by assumption)).size ?_; intro A9 c9 w9 hO9 hb9 hg9)
      | (go_at_call 79; ((with_reducible refine (HVb.out _).mono ?_); rintro e w10 ⟨⟨A10, m10, c10, rfl, hO10, hm10⟩, hb10⟩; replace hO10 := hO10.less (Nat.le_trans hle (b6 (by assumption)).size); replace hO9 := hO9.keep hb10))
      | (refine step_apB (o := ⟨some 37, _, _, _, _, _⟩) (base := W.heap.size) (n := n7 + m8) (m := m10) (l := numB dev ++ numB seq ++ numB K ++ textB ky.data.toList ++ valB ka na sa.data.toList) (l2 := valB kb nb sb.data.toList) (by rfl) _ _ (by rfl) Tryz.underlying23 Tryz.underlying23 hi0 hz0 hz1 hz2 (by rfl) (by rfl) hO9 hO10.rd hO10.len (n7 + m8 + m10) rfl (by omega) (b6 (by assumption)).size ?_; intro A11 c11 w11 hO11 hb11 hg11))
  have hS3 := b6 (by assumption : _ ∧ _ ∧ _ ∧ _ ∧ _ ∧ _ ∧ Below W.heap.size W w11)
  go_wp2_with fail
  go_ret
  exact ⟨⟨A11, n7 + m8 + m10, c11, rfl, hO11.less HB.out.size⟩, bt HB.out hS3⟩
end Go.Proofs.YtpjleeeligahaaaGreatDoor

namespace Go.Proofs.YtpjleeeligahaaaGreatDoor
open Go.RowKit

/-- A write's ten cells, as a value. -/
abbrev wrI (dev seq K : Int) (ky : ByteArray) (ka na : Int) (sa : ByteArray) (kb nb : Int) (sb : ByteArray) : Array Value :=
  #[.int .i64 dev, .int .i64 seq, .int .i64 K, .string ky, .int .i64 ka, .int .i64 na, .string sa, .int .i64 kb, .int .i64 nb, .string sb]
/-- Is it good? -/
def idB (dev seq : Int) : Bool := decide (1 ≤ dev ∧ dev ≤ 11 ∧ 1 ≤ seq ∧ seq ≤ 40)
def wrGoodB (dev seq K : Int) (ky : ByteArray) (ka na : Int) (sa : ByteArray) (kb nb : Int) (sb : ByteArray) : Bool := idB dev seq && opB K ky ka na sa kb nb sb

set_option maxHeartbeats 1000000 in
theorem refGoodId_any (dev seq : Int) (w : World) :
    Calls Tryz.prog 59 #[.agg #[.int .i64 dev, .int .i64 seq]] w fun e w' => e = .returned (.bool (idB dev seq)) ∧ Below w.heap.size w w' := by
  go_enter Tryz.func59, Tryz.ntmps59
  go_wp2
  all_goals go_ret
  all_goals refine ⟨ret_bool ?_, b0 _ _⟩
  all_goals unfold idB
  all_goals rw [Bool.eq_iff_iff]
  all_goals simp only [decide_eq_true_eq, Bool.false_eq_true, false_iff] at *
  all_goals omega

theorem blk_c10 {W : World} {b : Nat} {v0 v1 v2 v3 v4 v5 v6 v7 v8 v9 : Value} {t : TypeId} (h : Blk W b #[v0, v1, v2, v3, v4, v5, v6, v7, v8, v9] t) :
    W.cell? ⟨b, 0, none⟩ = some v0 ∧ W.cell? ⟨b, 1, none⟩ = some v1 ∧ W.cell? ⟨b, 2, none⟩ = some v2 ∧ W.cell? ⟨b, 3, none⟩ = some v3 ∧ W.cell? ⟨b, 4, none⟩ = some v4 ∧ W.cell? ⟨b, 5, none⟩ = some v5 ∧ W.cell? ⟨b, 6, none⟩ = some v6 ∧ W.cell? ⟨b, 7, none⟩ = some v7 ∧ W.cell? ⟨b, 8, none⟩ = some v8 ∧ W.cell? ⟨b, 9, none⟩ = some v9 ∧ b < W.heap.size :=
  ⟨h.cell 0, h.cell 1, h.cell 2, h.cell 3, h.cell 4, h.cell 5, h.cell 6, h.cell 7, h.cell 8, h.cell 9, h.lt⟩

set_option maxHeartbeats 2000000 in
theorem refWrGood_any (dev seq K ka na kb nb : Int) (ky sa sb : ByteArray) (w : World) (hk : ky.size ≤ maxLen) (ha : sa.size ≤ maxLen) (hb : sb.size ≤ maxLen) :
    Calls Tryz.prog 25 #[.agg (wrI dev seq K ky ka na sa kb nb sb)] w fun e w' => e = .returned (.bool (wrGoodB dev seq K ky ka na sa kb nb sb)) ∧ Below w.heap.size w w' := by
  go_enter Tryz.func25, Tryz.ntmps25
  go_wp2_with fail
  have hC := Lib.hid (blk_new w (wrI dev seq K ky ka na sa kb nb sb) 47)
  have hB := b0 w (.cells (wrI dev seq K ky ka na sa kb nb sb) 47)
  generalize w.alloc (.cells (wrI dev seq K ky ka na sa kb nb sb) 47) = W at hC hB ⊢
  refine (refGoodId_any _ _ _).mono ?_
  rintro e w1 ⟨rfl, hb1⟩
  replace hB := bt hB hb1
  replace hC := Lib.hid (hC.out.keep hb1)
  clear hb1
  obtain ⟨c0, c1, c2, c3, c4, c5, c6, c7, c8, c9, c10⟩ := blk_c10 hC.out
  cases gi : idB dev seq
  · have R : Hid (wrGoodB dev seq K ky ka na sa kb nb sb = false) := by show _ = _; unfold wrGoodB; rw [gi]; rfl
    clear gi
    go_wp2_with fail
    go_ret
    exact ⟨ret_bool R.out.symm, hB⟩
  · have R : Hid (wrGoodB dev seq K ky ka na sa kb nb sb = opB K ky ka na sa kb nb sb) := by show _ = _; unfold wrGoodB; rw [gi]; rfl
    clear gi
    go_wp2_with fail
    refine (refOpGood_any _ _ _ _ _ _ _ _ _ hk ha hb).mono ?_
    rintro e w2 ⟨rfl, hb2⟩
    replace hB := bt hB hb2
    go_wp2_with fail
    go_ret
    exact ⟨ret_bool R.out.symm, hB⟩
end Go.Proofs.YtpjleeeligahaaaGreatDoor

namespace Go.Proofs.YtpjleeeligahaaaGreatDoor
open Go.RowKit
attribute [local go_sem ↓] Go.wp_at_zero Go.wp_at_succ

/-- A write. -/
structure Wr where
  dev : Int
  seq : Int
  K : Int
  ky : ByteArray
  ka : Int
  na : Int
  sa : ByteArray
  kb : Int
  nb : Int
  sb : ByteArray
abbrev Wr.cells (x : Wr) : Array Value := wrI x.dev x.seq x.K x.ky x.ka x.na x.sa x.kb x.nb x.sb
def Wr.good (x : Wr) : Bool := wrGoodB x.dev x.seq x.K x.ky x.ka x.na x.sa x.kb x.nb x.sb
/-- Its texts are no longer than the form's reach, its numbers are of 64 bits. -/
def Wr.fits (x : Wr) : Prop := x.ky.size ≤ maxLen ∧ x.sa.size ≤ maxLen ∧ x.sb.size ≤ maxLen ∧ (-9223372036854775808 ≤ x.na ∧ x.na ≤ 9223372036854775807) ∧ (-9223372036854775808 ≤ x.nb ∧ x.nb ≤ 9223372036854775807)
/-- The slice at A reads as the writes l, in blocks below B. -/
def RdW (B : Nat) (W : World) (A : Option Addr) (l : List Wr) : Prop :=
  ∀ k x, l[k]? = some x → ∃ ad, A = some ad ∧ ad.block < B ∧ ∀ j v, x.cells[j]? = some v → W.cell? (ad.add (k * 10 + j)) = some v
theorem RdW.nil (B : Nat) (W : World) (A : Option Addr) : RdW B W A [] := fun k x h => by simp at h
theorem RdW.keep {B C : Nat} {W W' : World} {A : Option Addr} {l : List Wr} (h : RdW B W A l) (hb : Below C W W') (hBC : B ≤ C) : RdW B W' A l := by
  intro k x hx
  obtain ⟨ad, hA, hl, hc⟩ := h k x hx
  exact ⟨ad, hA, hl, fun j v hv => (hb.cell (by rw [add_block]; omega)).trans (hc j v hv)⟩
theorem RdW.more {B C : Nat} {W : World} {A : Option Addr} {l : List Wr} (h : RdW B W A l) (hBC : B ≤ C) : RdW C W A l := by
  intro k x hx
  obtain ⟨ad, hA, hl, hc⟩ := h k x hx
  exact ⟨ad, hA, by omega, hc⟩
theorem RdW.drew_ {B : Nat} {W : World} {A : Option Addr} {l : List Wr} (h : RdW B W A l) : RdW B W.drew A l := h
theorem RdW.at_ {B : Nat} {W : World} {A : Option Addr} {l : List Wr} (h : RdW B W A l) {k : Nat} (hk : k < l.length) : ∃ ad, A = some ad ∧ ad.block < B ∧ ∀ j v, (l[k]).cells[j]? = some v → W.cell? (ad.add (k * 10 + j)) = some v :=
  h k _ (List.getElem?_eq_getElem hk)

theorem add_at (a : Addr) (i j : Nat) : a.add (i + (j + 1)) = ⟨(a.add i).block, (a.add i).off + (j + 1), none⟩ := by
  rw [← add_add', Addr.add, if_neg (by omega)]
/-- A write's ten cells, as a load asks for them. -/
theorem wr_cells {W : World} {ad : Addr} {k : Nat} {x : Wr} (hc : ∀ j v, x.cells[j]? = some v → W.cell? (ad.add (k * 10 + j)) = some v) :
    W.cell? (ad.add (k * 10)) = some (.int .i64 x.dev) ∧ W.cell? ⟨(ad.add (k * 10)).block, (ad.add (k * 10)).off + 1, none⟩ = some (.int .i64 x.seq) ∧ W.cell? ⟨(ad.add (k * 10)).block, (ad.add (k * 10)).off + 2, none⟩ = some (.int .i64 x.K) ∧ W.cell? ⟨(ad.add (k * 10)).block, (ad.add (k * 10)).off + 3, none⟩ = some (.string x.ky) ∧
    W.cell? ⟨(ad.add (k * 10)).block, (ad.add (k * 10)).off + 4, none⟩ = some (.int .i64 x.ka) ∧ W.cell? ⟨(ad.add (k * 10)).block, (ad.add (k * 10)).off + 5, none⟩ = some (.int .i64 x.na) ∧ W.cell? ⟨(ad.add (k * 10)).block, (ad.add (k * 10)).off + 6, none⟩ = some (.string x.sa) ∧
    W.cell? ⟨(ad.add (k * 10)).block, (ad.add (k * 10)).off + 7, none⟩ = some (.int .i64 x.kb) ∧ W.cell? ⟨(ad.add (k * 10)).block, (ad.add (k * 10)).off + 8, none⟩ = some (.int .i64 x.nb) ∧ W.cell? ⟨(ad.add (k * 10)).block, (ad.add (k * 10)).off + 9, none⟩ = some (.string x.sb) := by
  have h : ∀ j v, x.cells[j + 1]? = some v → W.cell? ⟨(ad.add (k * 10)).block, (ad.add (k * 10)).off + (j + 1), none⟩ = some v := fun j v hv => by
    rw [← add_at]
    exact hc (j + 1) v hv
  exact ⟨hc 0 _ rfl, h 0 _ rfl, h 1 _ rfl, h 2 _ rfl, h 3 _ rfl, h 4 _ rfl, h 5 _ rfl, h 6 _ rfl, h 7 _ rfl, h 8 _ rfl⟩

def goodAll (l : List Wr) : Bool := l.all Wr.good

end Go.Proofs.YtpjleeeligahaaaGreatDoor

namespace Go.Proofs.YtpjleeeligahaaaGreatDoor
open Go.RowKit Go.WideShapes Go.ChangeShapes

section
open Go.Joins Go.Deep
variable {H : Type} {enc : TypeId × Value → H}
theorem cellsWw : Tryz.prog.cellsOf 47 = 10 := by kernel_rfl
theorem cellsOw : Tryz.prog.cellsOf 45 = 8 := by kernel_rfl
theorem cellsDw : Tryz.prog.cellsOf 40 = 2 := by kernel_rfl
theorem cellsVw : Tryz.prog.cellsOf 43 = 3 := by kernel_rfl
theorem cellsIw : Tryz.prog.cellsOf 3 = 1 := by kernel_rfl
theorem cellsKw : Tryz.prog.cellsOf 41 = 1 := by kernel_rfl
theorem cellsSw : Tryz.prog.cellsOf 9 = 1 := by kernel_rfl

set_option maxRecDepth 100000 in
theorem open_valW {W : World} {base : Nat} {spare : Nat → Bool} {held : Bool} {fuel : Nat} {c0 c1 c2 : Value} {y : DataW H × List MemPlace} (h : DataW.trod enc Tryz.prog W base spare held fuel 43 [c0, c1, c2] = some y) :
    ∃ (k n : Int) (s : ByteArray), c0 = .int .i64 k ∧ c1 = .int .i64 n ∧ c2 = .string s ∧ (Lit.int .i64 n).wf = true ∧ s.size ≤ maxLen := by
  obtain ⟨y0, y1, y2, m, rfl, _, h0, h1, h2⟩ := trod_struct3 Tryz.underlying43 h
  simp only [cellsIw, cellsKw, cellsSw, List.drop_zero, List.drop_succ_cons, List.take_succ_cons, List.take_zero] at h0 h1 h2
  obtain ⟨k, e0, rfl, wk⟩ := DataW.trod_int Tryz.underlying41 h0
  obtain ⟨n, e1, rfl, wn⟩ := DataW.trod_int Tryz.underlying3 h1
  obtain ⟨s, e2, rfl, ws⟩ := DataW.trod_string Tryz.underlying9 h2
  simp at e0 e1 e2
  subst e0 e1 e2
  exact ⟨k, n, s, rfl, rfl, rfl, wn, ws⟩
set_option maxRecDepth 100000 in
theorem open_opW {W : World} {base : Nat} {spare : Nat → Bool} {held : Bool} {fuel : Nat} {c0 c1 c2 c3 c4 c5 c6 c7 : Value} {y : DataW H × List MemPlace} (h : DataW.trod enc Tryz.prog W base spare held fuel 45 [c0, c1, c2, c3, c4, c5, c6, c7] = some y) :
    ∃ (K : Int) (ky : ByteArray) (ka na : Int) (sa : ByteArray) (kb nb : Int) (sb : ByteArray), c0 = .int .i64 K ∧ c1 = .string ky ∧ c2 = .int .i64 ka ∧ c3 = .int .i64 na ∧ c4 = .string sa ∧ c5 = .int .i64 kb ∧ c6 = .int .i64 nb ∧ c7 = .string sb ∧
      ky.size ≤ maxLen ∧ (Lit.int .i64 na).wf = true ∧ sa.size ≤ maxLen ∧ (Lit.int .i64 nb).wf = true ∧ sb.size ≤ maxLen := by
  obtain ⟨y0, y1, y2, y3, n, _, _, h0, h1, h2, h3⟩ := trod_struct4 Tryz.underlying45 h
  simp only [cellsIw, cellsSw, cellsVw, List.drop_zero, List.drop_succ_cons, List.take_succ_cons, List.take_zero] at h0 h1 h2 h3
  obtain ⟨K, e0, rfl, wK⟩ := DataW.trod_int Tryz.underlying3 h0
  obtain ⟨ky, e1, rfl, wky⟩ := DataW.trod_string Tryz.underlying9 h1
  simp at e0 e1
  subst e0 e1
  obtain ⟨ka, na, sa, rfl, rfl, rfl, wna, wsa⟩ := open_valW h2
  obtain ⟨kb, nb, sb, rfl, rfl, rfl, wnb, wsb⟩ := open_valW h3
  exact ⟨K, ky, ka, na, sa, kb, nb, sb, rfl, rfl, rfl, rfl, rfl, rfl, rfl, rfl, wky, wna, wsa, wnb, wsb⟩
set_option maxRecDepth 100000 in
/-- Ten cells that read as a write. -/
theorem open_wrW {W : World} {base : Nat} {spare : Nat → Bool} {held : Bool} {fuel : Nat} {cs : List Value} {y : DataW H × List MemPlace} (hl : cs.length = 10) (h : DataW.trod enc Tryz.prog W base spare held fuel 47 cs = some y) : ∃ x : Wr, cs = x.cells.toList ∧ x.fits := by
  match cs, hl with
  | [c0, c1, c2, c3, c4, c5, c6, c7, c8, c9], _ =>
    obtain ⟨y0, y1, n, _, _, h0, h1⟩ := trod_struct2 Tryz.underlying47 h
    simp only [cellsDw, cellsOw, List.drop_zero, List.drop_succ_cons, List.take_succ_cons, List.take_zero] at h0 h1
    obtain ⟨z0, z1, n2, _, _, k0, k1⟩ := trod_struct2 Tryz.underlying40 h0
    simp only [cellsIw, List.drop_zero, List.drop_succ_cons, List.take_succ_cons, List.take_zero] at k0 k1
    obtain ⟨dev, e0, rfl, _⟩ := DataW.trod_int Tryz.underlying3 k0
    obtain ⟨seq, e1, rfl, _⟩ := DataW.trod_int Tryz.underlying3 k1
    simp at e0 e1
    subst e0 e1
    obtain ⟨K, ky, ka, na, sa, kb, nb, sb, rfl, rfl, rfl, rfl, rfl, rfl, rfl, rfl, wky, wna, wsa, wnb, wsb⟩ := open_opW h1
    exact ⟨⟨dev, seq, K, ky, ka, na, sa, kb, nb, sb⟩, rfl, wky, wsa, wsb, wf_i64 wna, wf_i64 wnb⟩
set_option maxRecDepth 100000 in
/-- An argument that is a slice of writes, opened. -/
theorem open_wrl {t : TypeId} (ht : Tryz.prog.underlying t = some (.slice 47)) {W : World} {r : Reach} {b0 : Nat} {v : Value} {d : DataW H} {p : List MemPlace} (hv : Value.okWide Tryz.prog W r b0 t v) (h : DataW.Trod enc Tryz.prog W 0 (fun _ => true) true t v d p) :
    ∃ (A : Option Addr) (n c : Nat) (l : List Wr), v = .slice A n c ∧ l.length = n ∧ RdW W.heap.size W A l ∧ n ≤ maxLen ∧ ∀ x, x ∈ l → x.fits := by
  obtain ⟨A, n, c, rfl⟩ := okWide_slice ht hv
  obtain ⟨fuel, hf⟩ := h
  rcases open_slice ht hf with ⟨hcs, _⟩ | ⟨a, len, cap, m, f, D, Pl, hcs, _, hl, hm, hmm, _, hi⟩
  · simp [Value.cells] at hcs
    obtain ⟨rfl, rfl, rfl⟩ := hcs
    exact ⟨none, 0, 0, [], rfl, rfl, RdW.nil _ _ _, Nat.zero_le _, fun x hx => by simp at hx⟩
  · simp [Value.cells] at hcs
    obtain ⟨rfl, rfl, rfl⟩ := hcs
    have hle : n ≤ m := by rw [hmm]; simp; omega
    have hx : ∀ i, ∃ x : Wr, i < n → x.fits ∧ ∀ j v, x.cells[j]? = some v → W.cell? (a.add (i * 10 + j)) = some v := by
      intro i
      by_cases hin : i < n
      · obtain ⟨cs', hc, ht'⟩ := hi i (by omega)
        rw [cellsWw] at hc
        obtain ⟨_, hlen, hcell⟩ := World.cells?_some hc
        obtain ⟨x, rfl, hfx⟩ := open_wrW hlen ht'
        refine ⟨x, fun _ => ⟨hfx, fun j v hj => ?_⟩⟩
        have hj10 : j < 10 := by
          have := (Array.getElem?_eq_some_iff.1 hj).1
          simpa using this
        rw [← add_add', hcell j hj10, Array.getElem?_toList]
        exact hj
      · exact ⟨⟨0, 0, 0, ⟨#[]⟩, 0, 0, ⟨#[]⟩, 0, 0, ⟨#[]⟩⟩, fun h => absurd h hin⟩
    have hF : ∃ f : Nat → Wr, ∀ i, i < n → (f i).fits ∧ ∀ j v, (f i).cells[j]? = some v → W.cell? (a.add (i * 10 + j)) = some v := ⟨fun i => Classical.choose (hx i), fun i => Classical.choose_spec (hx i)⟩
    obtain ⟨g, hg⟩ := hF
    refine ⟨some a, n, c, (List.range n).map g, rfl, by simp, fun k x hx => ?_, by omega, fun x hx => ?_⟩
    · have hk : k < n := by
        have := (List.getElem?_eq_some_iff.1 hx).1
        simpa using this
      have e : x = g k := by
        rw [List.getElem?_map, List.getElem?_range hk] at hx
        injection hx with hx
        exact hx.symm
      subst e
      have hc := (hg k hk).2 0 _ rfl
      have hb := World.block_lt_of_cell? W _ hc
      rw [add_block] at hb
      exact ⟨a, rfl, hb, (hg k hk).2⟩
    · obtain ⟨k, hk, rfl⟩ := List.mem_map.1 hx
      exact (hg k (List.mem_range.1 hk)).1
end
end Go.Proofs.YtpjleeeligahaaaGreatDoor

namespace Go.Proofs.YtpjleeeligahaaaGreatDoor
open Go.RowKit

abbrev laI (a0 a1 a2 a3 a4 a5 a6 a7 a8 a9 a10 a11 : Int) : Array Value := #[.int .i64 a0, .int .i64 a1, .int .i64 a2, .int .i64 a3, .int .i64 a4, .int .i64 a5, .int .i64 a6, .int .i64 a7, .int .i64 a8, .int .i64 a9, .int .i64 a10, .int .i64 a11]
abbrev laL (a0 a1 a2 a3 a4 a5 a6 a7 a8 a9 a10 a11 : Int) : List Int := [a0, a1, a2, a3, a4, a5, a6, a7, a8, a9, a10, a11]
/-- Twelve numbers as a list. -/
abbrev liA (l : List Int) : Array Value := (l.map (Value.int .i64)).toArray
def gI (l : List Int) (j : Nat) : Int := (l[j]?).getD 0
theorem li_cases {l : List Int} (hl : l.length = 12) : ∃ a0 a1 a2 a3 a4 a5 a6 a7 a8 a9 a10 a11 : Int, l = laL a0 a1 a2 a3 a4 a5 a6 a7 a8 a9 a10 a11 := by
  match l, hl with
  | [a0, a1, a2, a3, a4, a5, a6, a7, a8, a9, a10, a11], _ => exact ⟨a0, a1, a2, a3, a4, a5, a6, a7, a8, a9, a10, a11, rfl⟩
theorem gI_some {l : List Int} {j : Nat} (h : j < l.length) : l[j]? = some (gI l j) := by
  unfold gI
  rw [List.getElem?_eq_getElem h]
  rfl
theorem li_cell {W : World} {b : Nat} {l : List Int} {t : TypeId} (h : Blk W b (liA l) t) {j : Nat} (hj : j < l.length) : W.cell? ⟨b, j, none⟩ = some (.int .i64 (gI l j)) := by
  rw [h.cell j, List.getElem?_toArray, List.getElem?_map, gI_some hj]
  rfl
theorem li_set (l : List Int) (j : Nat) (v : Int) : (liA l).setIfInBounds j (.int .i64 v) = liA (l.set j v) := by
  show _ = ((l.set j v).map (Value.int .i64)).toArray
  rw [List.setIfInBounds_toArray, List.map_set]
theorem li_one (l : List Int) : (liA l).all (·.oneCell') = true := by
  rw [List.all_toArray]
  simp [Value.oneCell']
theorem li_size (l : List Int) : (liA l).size = l.length := by simp
/-- Twelve numbers out of a rule. -/
def mk12 (f : Nat → Int) : List Int := (List.range 12).map f
theorem mk12_len (f : Nat → Int) : (mk12 f).length = 12 := by unfold mk12; simp
theorem gI_mk {f : Nat → Int} {j : Nat} (h : j < 12) : gI (mk12 f) j = f j := by
  unfold gI mk12
  rw [List.getElem?_map, List.getElem?_range h]
  rfl
theorem mk12_ext {f g : Nat → Int} (h : ∀ j, j < 12 → f j = g j) : mk12 f = mk12 g := by
  unfold mk12
  exact List.map_congr_left fun j hj => h j (List.mem_range.1 hj)
theorem li_ext {a b : List Int} (ha : a.length = 12) (hb : b.length = 12) (h : ∀ j, j < 12 → gI a j = gI b j) : a = b := by
  refine List.ext_getElem? fun j => ?_
  by_cases hj : j < 12
  · rw [gI_some (by omega), gI_some (by omega), h j hj]
  · rw [List.getElem?_eq_none (by omega), List.getElem?_eq_none (by omega)]
theorem mk12_self {l : List Int} (h : l.length = 12) : mk12 (gI l) = l := li_ext (mk12_len _) h fun _ hj => gI_mk hj
theorem gI_set {l : List Int} {j k : Nat} {v : Int} (h : k < l.length) : gI (l.set j v) k = if j = k then v else gI l k := by
  unfold gI
  rw [List.getElem?_set]
  split
  · rename_i e
    subst e
    rw [if_pos h]
    rfl
  · rfl
theorem in_liL {l : List Int} (hl : l.length = 12) {j : Nat} (hj : j < 12) (W : World) : (Instr.index 56 (.agg (liA l)) (.int .i64 (j : Int))).run Tryz.prog W = .ok (.int .i64 (gI l j)) W := by
  have hz : Tryz.prog.arrayLen 56 = 12 := by kernel_rfl
  have hc : Tryz.prog.cellsOf 3 = 1 := by kernel_rfl
  have i1 : (0 : Int) ≤ (j : Int) := by omega
  have i2 : (j : Int) < 12 := by omega
  have hg : (liA l)[j]? = some (.int .i64 (gI l j)) := by
    rw [List.getElem?_toArray, List.getElem?_map, gI_some (by omega)]
    rfl
  have hsz : (liA l).size = 12 := by rw [li_size, hl]
  obtain ⟨a0, a1, a2, a3, a4, a5, a6, a7, a8, a9, a10, a11, rfl⟩ := li_cases hl
  simp [Instr.index, run_underlying Tryz.underlying56, asIntOf, go_sem]
  match j, hj with
  | 0, _ | 1, _ | 2, _ | 3, _ | 4, _ | 5, _ | 6, _ | 7, _ | 8, _ | 9, _ | 10, _ | 11, _ => rfl
theorem ld_liL {W : World} {b : Nat} {l : List Int} {t : TypeId} (h : Blk W b (liA l) t) (hl : l.length = 12) : (Instr.loadAt 56 (.pointer (some ⟨b, 0, none⟩))).run Tryz.prog W = .ok (.agg (liA l)) W := by
  obtain ⟨a0, a1, a2, a3, a4, a5, a6, a7, a8, a9, a10, a11, rfl⟩ := li_cases hl
  exact run_loadAt_mid W b 0 _ (laI a0 a1 a2 a3 a4 a5 a6 a7 a8 a9 a10 a11).toList _ (fun j v hv => by rw [Nat.zero_add, h.cell j]; exact (Array.getElem?_toList ..).symm.trans hv) Tryz.underlying56 rfl (by kernel_rfl)
theorem ix_liL (W : World) (g j : Nat) (h : j < 12) : (Instr.indexAt 56 (.pointer (some ⟨g, 0, none⟩)) (.int .i64 (j : Int))).run Tryz.prog W = .ok (.pointer (some ⟨g, j, none⟩)) W := by
  have hz : Tryz.prog.arrayLen 56 = 12 := by kernel_rfl
  have i1 : (0 : Int) ≤ (j : Int) := by omega
  have i2 : (j : Int) < 12 := by omega
  have e : (⟨g, 0, none⟩ : Addr).add j = ⟨g, j, none⟩ := by
    unfold Addr.add
    split
    · next h => rw [h]
    · rw [Nat.zero_add]
  go_simp
theorem ld_liA {W : World} {b : Nat} {l : List Int} {t : TypeId} (h : Blk W b (liA l) t) (hl : l.length = 12) : (Instr.loadAt 55 (.pointer (some ⟨b, 0, none⟩))).run Tryz.prog W = .ok (.agg (liA l)) W := by
  obtain ⟨a0, a1, a2, a3, a4, a5, a6, a7, a8, a9, a10, a11, rfl⟩ := li_cases hl
  exact run_loadAt_mid W b 0 _ (laI a0 a1 a2 a3 a4 a5 a6 a7 a8 a9 a10 a11).toList _ (fun j v hv => by rw [Nat.zero_add, h.cell j]; exact (Array.getElem?_toList ..).symm.trans hv) Tryz.underlying55 rfl (by kernel_rfl)
theorem ix_liA (W : World) (g j : Nat) (h : j < 12) : (Instr.indexAt 55 (.pointer (some ⟨g, 0, none⟩)) (.int .i64 (j : Int))).run Tryz.prog W = .ok (.pointer (some ⟨g, j, none⟩)) W := by
  have hz : Tryz.prog.arrayLen 55 = 12 := by kernel_rfl
  have i1 : (0 : Int) ≤ (j : Int) := by omega
  have i2 : (j : Int) < 12 := by omega
  have e : (⟨g, 0, none⟩ : Addr).add j = ⟨g, j, none⟩ := by
    unfold Addr.add
    split
    · next h => rw [h]
    · rw [Nat.zero_add]
  go_simp
end Go.Proofs.YtpjleeeligahaaaGreatDoor
