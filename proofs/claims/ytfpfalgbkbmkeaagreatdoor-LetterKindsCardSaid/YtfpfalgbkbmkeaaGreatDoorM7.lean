/-
  WHAT IS PROVED: package pack's calls that put things behind other bytes (Number, Int, Text, Flag, Value, Write, Writes): the document's bytes, and what was handed in stays. Conditions: those typed in each theorem. · package pack's calls that put values and writes behind other bytes (Value, Write, Writes): the document's bytes, and what was handed in stays. Conditions: those typed in each theorem. · words for slices of structs (own work): a slice that reads as a list of elements of so many cells each, nil let in; one that the call owns; append of one element onto such a row. Over any program that bears the types named. · package roll's calls that put lists behind other bytes (putAll, putList of each kind of element): the document's bytes, behind what was handed in, which stays. Conditions: those typed in each theorem.
-/
import Derived.Test.YtfpfalgbkbmkeaaGreatDoorM6
import Derived.Test.YtfpfalgbkbmkeaaGreatDoorM4
import Derived.Test.YtfpfalgbkbmkeaaGreatDoorM0
import Derived.Test.YtfpfalgbkbmkeaaGreatDoorM1
namespace Go.Proofs.YtfpfalgbkbmkeaaGreatDoor
open Go.RowKit

theorem PutO.putR {w W : World} {L : List UInt8} {e : Ending} {w' : World} (hB : Below w.heap.size w W) (h : PutO w.heap.size W L e w') : PutR w L e w' := by
  obtain ⟨⟨A, n, c, rfl, hO⟩, hb, _⟩ := h
  exact ⟨⟨A, n, c, rfl, hO.len, hO.rd, hO.cap.1⟩, hB.trans hb⟩
theorem preB_of {w : World} {A : Option Addr} {n : Nat} {l : List UInt8} (hl : l.length = n) (hn : n ≤ 1000000) (hr : RdB w.heap.size w A l) : PreB w.heap.size w A n n l := .inr ⟨hr, hl, rfl, hn⟩

set_option maxRecDepth 100000 in
theorem packNumber_any (A : Option Addr) (n c : Nat) (l : List UInt8) (x : Nat) (w : World) (hl : l.length = n) (hn : n ≤ 100000) (hr : RdB w.heap.size w A l) (hc : n ≤ c) (hx : x < 18446744073709551616) :
    Calls Tryz.prog 53 #[.slice A n c, .int .u64 x] w fun e w' => PutR w (l ++ numB x) e w' := by
  go_enter Tryz.func53, Tryz.ntmps53
  go_wp2_with fail
  refine (own_any A n c w hc).mono ?_
  rintro e w1 ⟨rfl, rfl⟩
  go_wp2_with fail
  refine (putNumber_any w1.heap.size A n n l x w1 (preB_of hl (by omega) hr) (Nat.le_refl _) (by omega) hx).mono ?_
  rintro e w2 hP
  obtain ⟨⟨A2, n2, c2, rfl, hr2⟩, hb2⟩ := PutO.putR (Below.refl _ _) hP
  go_wp2_with fail
  go_ret
  exact ⟨⟨A2, n2, c2, rfl, hr2⟩, hb2⟩

set_option maxRecDepth 100000 in
theorem packText_any (A : Option Addr) (n c : Nat) (l : List UInt8) (s : ByteArray) (w : World) (hl : l.length = n) (hn : n ≤ 100000) (hr : RdB w.heap.size w A l) (hc : n ≤ c) (hs : s.size ≤ 100000) :
    Calls Tryz.prog 103 #[.slice A n c, .string s] w fun e w' => PutR w (l ++ textB s.data.toList) e w' := by
  go_enter Tryz.func103, Tryz.ntmps103
  go_wp2_with fail
  refine (own_any A n c w hc).mono ?_
  rintro e w1 ⟨rfl, rfl⟩
  go_wp2_with fail
  refine (putText_any w1.heap.size A n n l s w1 (preB_of hl (by omega) hr) (Nat.le_refl _) (by omega) (by omega)).mono ?_
  rintro e w2 hP
  obtain ⟨⟨A2, n2, c2, rfl, hr2⟩, hb2⟩ := PutO.putR (Below.refl _ _) hP
  go_wp2_with fail
  go_ret
  exact ⟨⟨A2, n2, c2, rfl, hr2⟩, hb2⟩

set_option maxRecDepth 100000 in
theorem packFlag_any (A : Option Addr) (n c : Nat) (l : List UInt8) (f : Bool) (w : World) (hl : l.length = n) (hn : n ≤ 200000) (hr : RdB w.heap.size w A l) (hc : n ≤ c) :
    Calls Tryz.prog 54 #[.slice A n c, .bool f] w fun e w' => PutR w (l ++ flagB f) e w' := by
  obtain ⟨i0, hi0, hz0, hz1, hz2⟩ := info_parts byt_info
  have hp := preB_of hl (by omega) hr
  cases f with
  | true =>
    have hp2 := hp.keep (b0 w (.cells #[.int .u8 1] 5))
    have hr2 := (litB w (base := w.heap.size) 1 1 rfl (Nat.le_refl _)).rd
    have hB := b0 w (.cells #[.int .u8 1] 5)
    go_enter Tryz.func54, Tryz.ntmps54
    go_wp2_with first
      | (go_at_call 100; refine (own_any A n c w hc).mono ?_; rintro e w1 ⟨rfl, rfl⟩)
      | (at_builtin; refine wpList_apP (base := w1.heap.size) (n := n) (m := 1) (l := l) (l2 := [1]) (by rfl) _ _ (by rfl) Tryz.underlying33 Tryz.underlying33 hi0 hz0 hz1 hz2 (by rfl) (by rfl) hp2 hr2 rfl (by omega) (n + 1) rfl (by omega) hB.size ?_; intro A5 c5 w5 hO5 hb5 ho5)
    go_ret
    exact ⟨⟨A5, n + 1, c5, rfl, hO5.len, hO5.rd, hO5.cap.1⟩, hB.trans hb5⟩
  | false =>
    have hp2 := hp.keep (b0 w (.cells #[.int .u8 0] 5))
    have hr2 := (litB w (base := w.heap.size) 0 0 rfl (Nat.le_refl _)).rd
    have hB := b0 w (.cells #[.int .u8 0] 5)
    go_enter Tryz.func54, Tryz.ntmps54
    go_wp2_with first
      | (go_at_call 100; refine (own_any A n c w hc).mono ?_; rintro e w1 ⟨rfl, rfl⟩)
      | (at_builtin; refine wpList_apP (base := w1.heap.size) (n := n) (m := 1) (l := l) (l2 := [0]) (by rfl) _ _ (by rfl) Tryz.underlying33 Tryz.underlying33 hi0 hz0 hz1 hz2 (by rfl) (by rfl) hp2 hr2 rfl (by omega) (n + 1) rfl (by omega) hB.size ?_; intro A5 c5 w5 hO5 hb5 ho5)
    go_ret
    exact ⟨⟨A5, n + 1, c5, rfl, hO5.len, hO5.rd, hO5.cap.1⟩, hB.trans hb5⟩
end Go.Proofs.YtfpfalgbkbmkeaaGreatDoor

namespace Go.Proofs.YtfpfalgbkbmkeaaGreatDoor
open Go.RowKit

section
variable {W w0 w' w1 : World} {b B : Nat} {v0 v1 v2 : Value} {t : TypeId}
theorem sV0 (h : Blk W b #[v0, v1, v2] t) (hB : Below B w0 W) : W.drew.cell? ⟨b, 0, none⟩ = some v0 ∧ W.drew.cell? ⟨b, 1, none⟩ = some v1 ∧ W.drew.cell? ⟨b, 2, none⟩ = some v2 ∧ Blk W.drew b #[v0, v1, v2] t ∧ Below B w0 W.drew :=
  ⟨h.cell 0, h.cell 1, h.cell 2, h, hB.drew⟩
theorem sV1 (h : w'.cell? ⟨b, 0, none⟩ = some v0 ∧ w'.cell? ⟨b, 1, none⟩ = some v1 ∧ w'.cell? ⟨b, 2, none⟩ = some v2 ∧ Blk w' b #[v0, v1, v2] t ∧ Below B w0 w') (hb : Below B w' w1) (ho : Oth w' w1) (ht : t ≠ 5) :
    w1.cell? ⟨b, 0, none⟩ = some v0 ∧ w1.cell? ⟨b, 1, none⟩ = some v1 ∧ w1.cell? ⟨b, 2, none⟩ = some v2 ∧ Blk w1 b #[v0, v1, v2] t ∧ Below B w0 w1 := by
  have hk := ho.blk ht h.2.2.2.1
  exact ⟨hk.cell 0, hk.cell 1, hk.cell 2, hk, h.2.2.2.2.trans hb⟩
theorem sVB (h : w'.cell? ⟨b, 0, none⟩ = some v0 ∧ w'.cell? ⟨b, 1, none⟩ = some v1 ∧ w'.cell? ⟨b, 2, none⟩ = some v2 ∧ Blk w' b #[v0, v1, v2] t ∧ Below B w0 w') : Below B w0 w' := h.2.2.2.2
end
section
variable {W w0 w' w1 : World} {b B : Nat} {v0 v1 v2 v3 v4 v5 v6 v7 v8 v9 : Value} {t : TypeId}
theorem sW0 (h : Blk W b #[v0, v1, v2, v3, v4, v5, v6, v7, v8, v9] t) (hB : Below B w0 W) : W.drew.cell? ⟨b, 0, none⟩ = some v0 ∧ W.drew.cell? ⟨b, 1, none⟩ = some v1 ∧ W.drew.cell? ⟨b, 2, none⟩ = some v2 ∧ W.drew.cell? ⟨b, 3, none⟩ = some v3 ∧ W.drew.cell? ⟨b, 4, none⟩ = some v4 ∧ W.drew.cell? ⟨b, 5, none⟩ = some v5 ∧ W.drew.cell? ⟨b, 6, none⟩ = some v6 ∧ W.drew.cell? ⟨b, 7, none⟩ = some v7 ∧ W.drew.cell? ⟨b, 8, none⟩ = some v8 ∧ W.drew.cell? ⟨b, 9, none⟩ = some v9 ∧ Blk W.drew b #[v0, v1, v2, v3, v4, v5, v6, v7, v8, v9] t ∧ Below B w0 W.drew :=
  ⟨h.cell 0, h.cell 1, h.cell 2, h.cell 3, h.cell 4, h.cell 5, h.cell 6, h.cell 7, h.cell 8, h.cell 9, h, hB.drew⟩
theorem sW1 (h : w'.cell? ⟨b, 0, none⟩ = some v0 ∧ w'.cell? ⟨b, 1, none⟩ = some v1 ∧ w'.cell? ⟨b, 2, none⟩ = some v2 ∧ w'.cell? ⟨b, 3, none⟩ = some v3 ∧ w'.cell? ⟨b, 4, none⟩ = some v4 ∧ w'.cell? ⟨b, 5, none⟩ = some v5 ∧ w'.cell? ⟨b, 6, none⟩ = some v6 ∧ w'.cell? ⟨b, 7, none⟩ = some v7 ∧ w'.cell? ⟨b, 8, none⟩ = some v8 ∧ w'.cell? ⟨b, 9, none⟩ = some v9 ∧ Blk w' b #[v0, v1, v2, v3, v4, v5, v6, v7, v8, v9] t ∧ Below B w0 w') (hb : Below B w' w1) (ho : Oth w' w1) (ht : t ≠ 5) :
    w1.cell? ⟨b, 0, none⟩ = some v0 ∧ w1.cell? ⟨b, 1, none⟩ = some v1 ∧ w1.cell? ⟨b, 2, none⟩ = some v2 ∧ w1.cell? ⟨b, 3, none⟩ = some v3 ∧ w1.cell? ⟨b, 4, none⟩ = some v4 ∧ w1.cell? ⟨b, 5, none⟩ = some v5 ∧ w1.cell? ⟨b, 6, none⟩ = some v6 ∧ w1.cell? ⟨b, 7, none⟩ = some v7 ∧ w1.cell? ⟨b, 8, none⟩ = some v8 ∧ w1.cell? ⟨b, 9, none⟩ = some v9 ∧ Blk w1 b #[v0, v1, v2, v3, v4, v5, v6, v7, v8, v9] t ∧ Below B w0 w1 := by
  have hk := ho.blk ht h.2.2.2.2.2.2.2.2.2.2.1
  exact ⟨hk.cell 0, hk.cell 1, hk.cell 2, hk.cell 3, hk.cell 4, hk.cell 5, hk.cell 6, hk.cell 7, hk.cell 8, hk.cell 9, hk, h.2.2.2.2.2.2.2.2.2.2.2.trans hb⟩
theorem sWB (h : w'.cell? ⟨b, 0, none⟩ = some v0 ∧ w'.cell? ⟨b, 1, none⟩ = some v1 ∧ w'.cell? ⟨b, 2, none⟩ = some v2 ∧ w'.cell? ⟨b, 3, none⟩ = some v3 ∧ w'.cell? ⟨b, 4, none⟩ = some v4 ∧ w'.cell? ⟨b, 5, none⟩ = some v5 ∧ w'.cell? ⟨b, 6, none⟩ = some v6 ∧ w'.cell? ⟨b, 7, none⟩ = some v7 ∧ w'.cell? ⟨b, 8, none⟩ = some v8 ∧ w'.cell? ⟨b, 9, none⟩ = some v9 ∧ Blk w' b #[v0, v1, v2, v3, v4, v5, v6, v7, v8, v9] t ∧ Below B w0 w') : Below B w0 w' := h.2.2.2.2.2.2.2.2.2.2.2
end
theorem pre_in {w W : World} {A : Option Addr} {n : Nat} {l : List UInt8} (hl : l.length = n) (hn : n ≤ 1000000) (hr : RdB w.heap.size w A l) (hb : Below w.heap.size w W) : PreB w.heap.size W A n n l :=
  .inr ⟨(hr.keep hb (Nat.le_refl _)).more hb.size, hl, rfl, hn⟩

set_option maxRecDepth 100000 in
set_option maxHeartbeats 2000000 in
theorem packValue_any (A : Option Addr) (n c : Nat) (l : List UInt8) (k x : Int) (s : ByteArray) (w : World) (hl : l.length = n) (hn : n ≤ 100000) (hr : RdB w.heap.size w A l) (hc : n ≤ c) (hg : goodB k x s = true) (h0 : -9223372036854775808 ≤ x) (h1 : x ≤ 9223372036854775807) :
    Calls Tryz.prog 111 #[.slice A n c, .agg #[.int .i64 k, .int .i64 x, .string s]] w fun e w' => PutR w (l ++ valB k x s.data.toList) e w' := by
  have hG := goodB_in hg
  have HV := Lib.hid (fun W (hb : Below w.heap.size w W) => putValue_any w.heap.size A n n l k x s W (pre_in hl (by omega) hr hb) hb.size (show n ≤ 90000000000 by omega) hG.1 h0 h1 (by have := hG.2; omega))
  clear hg hG h0 h1 hr hl
  go_enter Tryz.func111, Tryz.ntmps111
  go_wp2_with fail
  have hC := blk_new w #[.int .i64 k, .int .i64 x, .string s] 51
  have hB := b0 w (.cells #[.int .i64 k, .int .i64 x, .string s] 51)
  generalize w.alloc (.cells #[.int .i64 k, .int .i64 x, .string s] 51) = W at hC hB ⊢
  generalize hb : w.heap.size = b at hC hB HV ⊢
  go_region_held3 (fun w' => w'.cell? ⟨b, 0, none⟩ = some (.int .i64 k) ∧ w'.cell? ⟨b, 1, none⟩ = some (.int .i64 x) ∧ w'.cell? ⟨b, 2, none⟩ = some (.string s) ∧ Blk w' b #[.int .i64 k, .int .i64 x, .string s] 51 ∧ Below b w w')
    (first | assumption | exact sV0 hC hB | exact sV1 (by assumption) (by assumption) (by assumption) (by decide))
    (first
      | (go_at_call 100; ((with_reducible refine (own_any A n c _ hc).mono ?_); rintro e w1 ⟨rfl, rfl⟩))
      | (go_at_call 166; ((with_reducible refine (HV.out _ (sVB (by assumption))).mono ?_); rintro e w2 ⟨⟨A2, n2, c2, rfl, hO2⟩, hb2, ho2⟩)))
  have hfin := sVB (w' := w2) (by assumption)
  go_wp2_with fail
  go_ret
  exact ⟨⟨A2, n2, c2, rfl, hO2.len, (by subst hb; exact hO2.rd), hO2.cap.1⟩, by rw [hb]; exact hfin⟩

set_option maxRecDepth 100000 in
set_option maxHeartbeats 4000000 in
theorem packWrite_any (A : Option Addr) (n c : Nat) (l : List UInt8) (x : Wr) (w : World) (hl : l.length = n) (hn : n ≤ 100000) (hr : RdB w.heap.size w A l) (hc : n ≤ c) (hg : x.good = true) (hf : x.fits) :
    Calls Tryz.prog 107 #[.slice A n c, .agg x.cells] w fun e w' => PutR w (l ++ wB x) e w' := by
  have HV := Lib.hid (fun W (hb : Below w.heap.size w W) => putWrite_any w.heap.size A n n l x W (pre_in hl (by omega) hr hb) hb.size (show n ≤ 80000000000 by omega) hg hf)
  clear hg hf hr hl
  obtain ⟨dev, seq, K, ky, ka, na, sa, kb, nb, sb⟩ := x
  go_enter Tryz.func107, Tryz.ntmps107
  go_wp2_with fail
  have hC := blk_new w (wrI dev seq K ky ka na sa kb nb sb) 55
  have hB := b0 w (.cells (wrI dev seq K ky ka na sa kb nb sb) 55)
  generalize w.alloc (.cells (wrI dev seq K ky ka na sa kb nb sb) 55) = W at hC hB ⊢
  generalize hb : w.heap.size = b at hC hB HV ⊢
  go_region_held3 (fun w' => w'.cell? ⟨b, 0, none⟩ = some (.int .i64 dev) ∧ w'.cell? ⟨b, 1, none⟩ = some (.int .i64 seq) ∧ w'.cell? ⟨b, 2, none⟩ = some (.int .i64 K) ∧ w'.cell? ⟨b, 3, none⟩ = some (.string ky) ∧ w'.cell? ⟨b, 4, none⟩ = some (.int .i64 ka) ∧ w'.cell? ⟨b, 5, none⟩ = some (.int .i64 na) ∧ w'.cell? ⟨b, 6, none⟩ = some (.string sa) ∧ w'.cell? ⟨b, 7, none⟩ = some (.int .i64 kb) ∧ w'.cell? ⟨b, 8, none⟩ = some (.int .i64 nb) ∧ w'.cell? ⟨b, 9, none⟩ = some (.string sb) ∧ Blk w' b (wrI dev seq K ky ka na sa kb nb sb) 55 ∧ Below b w w')
    (first | assumption | exact sW0 hC hB | exact sW1 (by assumption) (by assumption) (by assumption) (by decide))
    (first
      | (go_at_call 100; ((with_reducible refine (own_any A n c _ hc).mono ?_); rintro e w1 ⟨rfl, rfl⟩))
      | (go_at_call 104; ((with_reducible refine (HV.out _ (sWB (by assumption))).mono ?_); rintro e w2 ⟨⟨A2, n2, c2, rfl, hO2⟩, hb2, ho2⟩)))
  have hfin := sWB (w' := w2) (by assumption)
  go_wp2_with fail
  go_ret
  exact ⟨⟨A2, n2, c2, rfl, hO2.len, (by subst hb; exact hO2.rd), hO2.cap.1⟩, by rw [hb]; exact hfin⟩

set_option maxRecDepth 100000 in
set_option maxHeartbeats 4000000 in
theorem packWrites_any (A A2 : Option Addr) (n c m d : Nat) (l : List UInt8) (xs : List Wr) (w : World) (hl : l.length = n) (hn : n ≤ 100000) (hr : RdB w.heap.size w A l) (hc : n ≤ c) (hm : xs.length = m) (hm1 : m ≤ 1000) (hr2 : RdW w.heap.size w A2 xs) (hf : ∀ x, x ∈ xs → x.fits ∧ x.good = true) :
    Calls Tryz.prog 56 #[.slice A n c, .slice A2 m d] w fun e w' => PutR w (l ++ wsB xs) e w' := by
  have HN := Lib.hid hm
  have HR := Lib.hid (fun W hb => hr2.keep (W' := W) hb (Nat.le_refl _))
  have wn : IntKind.u64.wrap (m : Int) = (m : Int) := wrap_size (by omega)
  have hP := putNumber_any w.heap.size A n n l m w (pre_in hl (by omega) hr (Below.refl _ _)) (Nat.le_refl _) (by omega) (by omega)
  clear hm hr2 hr
  go_enter Tryz.func56, Tryz.ntmps56
  go_wp2_with fail
  refine (own_any A n c w hc).mono ?_
  rintro e w0 ⟨rfl, rfl⟩
  go_wp2_with fail
  refine hP.mono ?_
  rintro e w1 ⟨⟨A1, n1, c1, rfl, hO1⟩, hb1, -⟩
  have hn1 := put_len hO1 hl (numB_small (n := m) (by omega))
  go_wp2_with fail
  go_loopw [0, 15] (fun b i wr => ∃ (k : Nat) (A3 : Option Addr) (n3 c3 : Nat), k ≤ m ∧ i = .int .i64 k ∧ b = .slice A3 n3 c3 ∧ n3 ≤ 100009 + 5000000 * k ∧ OwnB w0.heap.size wr A3 n3 c3 (l ++ numB m ++ (xs.take k).flatMap wB) ∧ Below w0.heap.size w0 wr) (fun _ i _ => m - (intOf i).toNat)
  case atStart => exact ⟨0, A1, n1, c1, Nat.zero_le _, rfl, rfl, by omega, by simpa using hO1, hb1⟩
  case round =>
    clear hO1 hb1 hn1 hP
    obtain ⟨k, A3, n3, d3, hk, rfl, rfl, hn3, hO, hW⟩ := hrel
    by_cases hlt : k < m
    · obtain ⟨x, hx⟩ : ∃ x, xs[k]? = some x := ⟨_, List.getElem?_eq_getElem (show k < xs.length by have := HN.out; omega)⟩
      obtain ⟨ad, rfl, _, hcl⟩ := HR.out wr hW k x hx
      have i1 : (0 : Int) ≤ (k : Int) := by omega
      have i2 : (k : Int) < (m : Int) := by omega
      have HX := Lib.hid hx
      have hfx := hf x (List.mem_of_getElem? hx)
      have hsm := wB_small hfx.2 hfx.1
      have HF := Lib.hid hfx
      clear hx hfx
      obtain ⟨c0, c1, c2, c3, c4, c5, c6, c7, c8, c9⟩ := wr_cells hcl
      clear hcl
      have hE : l ++ numB m ++ (xs.take k).flatMap wB ++ wB x = l ++ numB m ++ (xs.take (k + 1)).flatMap wB := by
        rw [List.take_add_one, HX.out]
        simp
      have HE := Lib.hid hE
      clear hE
      have hO2 := hO.keep (b0 wr (.cells x.cells 55))
      have hl2 := hO.len
      have hW2 := hW.alloc hW.size (.cells x.cells 55)
      have hz := hW2.size
      go_wp2_with fail
      refine (putWrite_any w0.heap.size A3 n3 d3 _ x _ (.inl hO2) hz (by omega) HF.out.2 HF.out.1).mono ?_
      rintro e w2 ⟨⟨A4, n4, d4, rfl, hO4⟩, hb4, -⟩
      have hn4 := put_len hO4 hl2 hsm
      rw [HE.out] at hO4
      have hW4 := hW2.trans hb4
      go_wp2_with fail
      go_roundw
      case rel => exact ⟨k + 1, A4, n4, d4, by omega, by go_num, rfl, by rw [Nat.mul_succ, ← Nat.add_assoc]; exact Nat.le_trans hn4 (Nat.add_le_add_right hn3 _), hO4, hW4⟩
      case measure => simp [intOf]; omega
    · have hq : ¬ (k : Int) < (m : Int) := by omega
      have hE : l ++ numB m ++ (xs.take k).flatMap wB = l ++ wsB xs := by
        unfold wsB
        rw [HN.out, List.take_of_length_le (by have := HN.out; omega), List.append_assoc]
      rw [hE] at hO
      go_wp2_with fail
      go_ret
      exact ⟨⟨A3, n3, d3, rfl, hO.len, hO.rd, hO.cap.1⟩, hW⟩
end Go.Proofs.YtfpfalgbkbmkeaaGreatDoor

namespace Go.Proofs.YtfpfalgbkbmkeaaGreatDoor
open Go.RowKit

/-- The cells of elements; are they of z cells each? -/
abbrev celV (l : List (Array Value)) : List Value := l.flatMap (·.toList)
def Szd (z : Nat) (l : List (Array Value)) : Prop := ∀ cs, cs ∈ l → cs.size = z
theorem celV_len {z : Nat} : ∀ (l : List (Array Value)), Szd z l → (celV l).length = l.length * z
  | [], _ => by simp
  | a :: t, h => by
    have h1 := h a (List.mem_cons_self ..)
    have h2 := celV_len t fun cs hc => h cs (List.mem_cons_of_mem _ hc)
    show (a.toList ++ celV t).length = _
    rw [List.length_append, h2, Array.length_toList, h1, List.length_cons, Nat.succ_mul]
    omega
theorem celV_get {z : Nat} : ∀ (l : List (Array Value)), Szd z l → ∀ (k j : Nat) (cs : Array Value) (v : Value), l[k]? = some cs → cs[j]? = some v → (celV l)[k * z + j]? = some v
  | [], _, k, j, cs, v, h, _ => by simp at h
  | a :: t, _, 0, j, cs, v, h, hv => by
    have e : a = cs := by simpa using h
    subst e
    have hj := (Array.getElem?_eq_some_iff.1 hv).1
    show (a.toList ++ celV t)[0 * z + j]? = _
    rw [Nat.zero_mul, Nat.zero_add, List.getElem?_append_left (by rw [Array.length_toList]; exact hj), Array.getElem?_toList]
    exact hv
  | a :: t, hs, k + 1, j, cs, v, h, hv => by
    have h1 := hs a (List.mem_cons_self ..)
    have h2 : t[k]? = some cs := by simpa using h
    have ih := celV_get t (fun cs hc => hs cs (List.mem_cons_of_mem _ hc)) k j cs v h2 hv
    show (a.toList ++ celV t)[(k + 1) * z + j]? = _
    rw [Nat.succ_mul, List.getElem?_append_right (by rw [Array.length_toList, h1]; omega), Array.length_toList, h1, show k * z + z + j - z = k * z + j by omega]
    exact ih
/-- The slice at A reads as the elements l, z cells each, in blocks below B. -/
def RdX (z B : Nat) (W : World) (A : Option Addr) (l : List (Array Value)) : Prop :=
  ∀ k cs, l[k]? = some cs → ∃ ad, A = some ad ∧ ad.block < B ∧ ∀ j v, cs[j]? = some v → W.cell? (ad.add (k * z + j)) = some v
theorem RdX.nil (z B : Nat) (W : World) (A : Option Addr) : RdX z B W A [] := fun k x h => by simp at h
theorem RdX.keep {z B C : Nat} {W W' : World} {A : Option Addr} {l : List (Array Value)} (h : RdX z B W A l) (hb : Below C W W') (hBC : B ≤ C) : RdX z B W' A l := by
  intro k x hx
  obtain ⟨ad, hA, hl, hc⟩ := h k x hx
  exact ⟨ad, hA, hl, fun j v hv => (hb.cell (by rw [add_block]; omega)).trans (hc j v hv)⟩
theorem RdX.more {z B C : Nat} {W : World} {A : Option Addr} {l : List (Array Value)} (h : RdX z B W A l) (hBC : B ≤ C) : RdX z C W A l := by
  intro k x hx
  obtain ⟨ad, hA, hl, hc⟩ := h k x hx
  exact ⟨ad, hA, by omega, hc⟩
theorem RdX.drews {z B : Nat} {W : World} {A : Option Addr} {l : List (Array Value)} (h : RdX z B W A l) (n : Nat) : RdX z B (W.drewN n) A l := h
theorem RdX.grown {z B : Nat} {W W' : World} {A : Option Addr} {l : List (Array Value)} {row : Option Nat} (h : RdX z B W A l) (hg : W.grownBy W' row) (hB : B ≤ W.heap.size) (hne : ∀ a, A = some a → some a.block ≠ row) : RdX z B W' A l := by
  intro k x hx
  obtain ⟨ad, hA, hl, hc⟩ := h k x hx
  exact ⟨ad, hA, hl, fun j v hv => (hg.cell_far _ (by rw [add_block]; omega) (by rw [add_block]; exact hne ad hA)).trans (hc j v hv)⟩
theorem addX_at (a : Addr) (i j : Nat) : a.add (i + (j + 1)) = ⟨(a.add i).block, (a.add i).off + (j + 1), none⟩ := by
  rw [← add_add', Addr.add, if_neg (by omega)]
/-- An element's cells, as a load asks for them. -/
theorem celX {W : World} {ad : Addr} {k z : Nat} {cs : Array Value} (hc : ∀ j v, cs[j]? = some v → W.cell? (ad.add (k * z + j)) = some v) :
    (∀ v, cs[0]? = some v → W.cell? (ad.add (k * z)) = some v) ∧ ∀ j v, cs[j + 1]? = some v → W.cell? ⟨(ad.add (k * z)).block, (ad.add (k * z)).off + (j + 1), none⟩ = some v :=
  ⟨fun v hv => hc 0 v hv, fun j v hv => by rw [← addX_at]; exact hc (j + 1) v hv⟩
/-- A row of elements that the call owns, in blocks from base on. -/
def OwnX (t : TypeId) (z base : Nat) (W : World) (A : Option Addr) (n c : Nat) (l : List (Array Value)) : Prop := W.ownsRow base t z (.slice A n c) n (celV l) ∧ Szd z l ∧ l.length = n
theorem OwnX.nil (t : TypeId) (z base : Nat) (W : World) : OwnX t z base W none 0 0 [] := ⟨World.ownsRow_nil W base t z, fun _ h => by simp at h, rfl⟩
theorem OwnX.len {t : TypeId} {z base : Nat} {W : World} {A : Option Addr} {n c : Nat} {l : List (Array Value)} (h : OwnX t z base W A n c l) : l.length = n := h.2.2
theorem OwnX.rd {t : TypeId} {z base : Nat} {W : World} {A : Option Addr} {n c : Nat} {l : List (Array Value)} (h : OwnX t z base W A n c l) : RdX z W.heap.size W A l := by
  intro k x hx
  have hk := (List.getElem?_eq_some_iff.1 hx).1
  have hl := h.len
  obtain ⟨g, cap, hv, _, hlt⟩ := World.ownsRow.form h.1 (by omega)
  injection hv with hv
  subst hv
  exact ⟨_, rfl, hlt, fun j v hj => h.1.cells (g := g) rfl _ _ (celV_get l h.2.1 k j x v hx hj)⟩
theorem OwnX.cap {t : TypeId} {z base : Nat} {W : World} {A : Option Addr} {n c : Nat} {l : List (Array Value)} (h : OwnX t z base W A n c l) : n ≤ c ∧ c ≤ maxLen := by
  rcases h.1.2 with ⟨hv, _⟩ | ⟨g, cap, cur, hv, _, _, h1, h2, _⟩
  · injection hv with _ h1 h2
    subst h2
    rw [h1]
    exact ⟨Nat.le_refl _, Nat.zero_le _⟩
  · injection hv with _ _ h3
    subst h3
    exact ⟨h1, h2⟩
theorem OwnX.blk {t : TypeId} {z base : Nat} {W : World} {A : Option Addr} {n c : Nat} {l : List (Array Value)} (h : OwnX t z base W A n c l) {a : Addr} (ha : A = some a) : base ≤ a.block ∧ a.block < W.heap.size := by
  subst ha
  exact World.ownsRow.lt h.1 a.block rfl
theorem OwnX.keep {t : TypeId} {z base : Nat} {W W' : World} {A : Option Addr} {n c : Nat} {l : List (Array Value)} (h : OwnX t z base W A n c l) (hb : Below W.heap.size W W') : OwnX t z base W' A n c l :=
  ⟨World.ownsRow.kept h.1 (row := none) ⟨hb.os, hb.tape, hb.output, hb.size, fun k hk _ => hb.block k hk⟩ (by cases A <;> simp [Value.ownBlock]), h.2⟩
theorem OwnX.keepG {t : TypeId} {z base : Nat} {W W' : World} {A : Option Addr} {n c : Nat} {l : List (Array Value)} {g : Nat} (h : OwnX t z base W A n c l) (hg : W.grownBy W' (some g)) (hlt : g < base) : OwnX t z base W' A n c l := by
  refine ⟨World.ownsRow.kept h.1 hg ?_, h.2⟩
  cases A with
  | none => simp [Value.ownBlock]
  | some a =>
    have := World.ownsRow.lt h.1 a.block rfl
    right
    intro e
    simp only [Value.ownBlock, Option.some.injEq] at e
    omega
theorem OwnX.less {t : TypeId} {z base b2 : Nat} {W : World} {A : Option Addr} {n c : Nat} {l : List (Array Value)} (h : OwnX t z base W A n c l) (hb : b2 ≤ base) : OwnX t z b2 W A n c l := by
  refine ⟨⟨h.1.1, ?_⟩, h.2⟩
  rcases h.1.2 with h | ⟨g, cap, cur, h1, h2, h3⟩
  · exact .inl h
  · exact .inr ⟨g, cap, cur, h1, by omega, h3⟩
/-- Append of one element onto a row of the call's own. -/
theorem run_apX {P : Program} (w : World) {t t' e' ty el : TypeId} {i : TypeInfo} {z y : Nat} {zv : Value} (ht : P.underlying t = some (.slice el)) (ht' : P.underlying t' = some (.slice e')) (hi : P.info? el = some i) (hz : i.zero = some zv) (hs : i.size = z) (hy : i.bytes = y) (hzs : zv.cells.size = z) (hz0 : 0 < z) (hy0 : y ≤ 1000)
    {base : Nat} {A : Option Addr} {ad : Addr} {n c d : Nat} {l : List (Array Value)} {x : Array Value} (hown : OwnX el z base w A n c l) (hx : x.size = z) (h1 : ∀ u ∈ x.toList, u.oneCell' = true) (hr : ∀ j v, x[j]? = some v → w.cell? (ad.add j) = some v) (hsz : n ≤ 1000000000) (hbase : base ≤ w.heap.size) :
    ∃ A' c' w', (Builtin.append_ #[t, t'] ty #[.slice A n c, .slice (some ad) 1 d]).run P w = .ok (.slice A' (n + 1) c') w' ∧ OwnX el z base w' A' (n + 1) c' (l ++ [x]) ∧ Below base w w' := by
  obtain ⟨v', w', hrun, h2, h3, _, _⟩ := run_append_own_at (P := P) w base t ty el i zv z y ht hi hz hs hy hzs hz0 (.slice A n c) n (celV l) hown.1 ad 1 d x.toList (by rw [Array.length_toList, hx, Nat.one_mul]) (fun j u hu => hr j u (by rw [← Array.getElem?_toList]; exact hu)) h1
    (by unfold maxLen; omega) (Nat.le_trans (Nat.mul_le_mul (show n + 1 ≤ 1000000001 by omega) hy0) (by omega)) hbase
  have hb : Below base w w' := (Below.refl base w).grown h3 hbase (fun k hk => (World.ownsRow.lt hown.1 k hk).1)
  have hv : ∃ A' c', v' = .slice A' (n + 1) c' := by
    rcases h2.2 with ⟨_, e2⟩ | ⟨g, cap, cur, e1, _⟩
    · omega
    · exact ⟨_, _, e1⟩
  obtain ⟨A', c', rfl⟩ := hv
  refine ⟨A', c', w', by rw [run_append_tt w ht ht']; exact hrun, ⟨?_, ?_, ?_⟩, hb⟩
  · rw [show celV (l ++ [x]) = celV l ++ x.toList by simp [celV]]
    exact h2
  · intro cs hc
    rcases List.mem_append.1 hc with h | h
    · exact hown.2.1 cs h
    · rw [List.mem_singleton.1 h]
      exact hx
  · rw [List.length_append, hown.2.2]
    rfl
section
variable {P : Program} {w : World} {t t' e' el : TypeId} {i : TypeInfo} {z y : Nat} {zv : Value} {base : Nat} {A : Option Addr} {ad : Addr} {n c d : Nat} {l : List (Array Value)} {xx : Array Value} {o : Oper} {a : Act} {Q : Exit → Act → World → Prop} {ops : Array Oper}
theorem wp_apX {K : Act → World → Prop} (s x : Operand) (ho : o.op = .call { callee := .builtin .append, args := #[s, x], argTypes := #[t, t'] })
    (ht : P.underlying t = some (.slice el)) (ht' : P.underlying t' = some (.slice e')) (hi : P.info? el = some i) (hz : i.zero = some zv) (hs : i.size = z) (hy : i.bytes = y) (hzs : zv.cells.size = z) (hz0 : 0 < z) (hy0 : y ≤ 1000)
    (h1 : a.eval s = .slice A n c) (h2 : a.eval x = .slice (some ad) 1 d) (hown : OwnX el z base w A n c l) (hx : xx.size = z) (hone : ∀ u ∈ xx.toList, u.oneCell' = true) (hr : ∀ j v, xx[j]? = some v → w.cell? (ad.add j) = some v) (hsz : n ≤ 1000000000) (hbase : base ≤ w.heap.size)
    (h : ∀ A' c' w', OwnX el z base w' A' (n + 1) c' (l ++ [xx]) → Below base w w' → K (a.put o.dst (.slice A' (n + 1) c')) w') : o.wp P a w K Q := by
  obtain ⟨A', c', w', hrun, k1, k2⟩ := run_apX (P := P) (ty := o.type) (d := d) w ht ht' hi hz hs hy hzs hz0 hy0 hown hx hone hr hsz hbase
  unfold Oper.wp execOp
  simp only [ho, resolve, invoke, builtin, Sem.run_bind, Sem.run_pure, Result.andThen_ok, List.map_toArray, List.map_cons, List.map_nil, h1, h2, hrun]
  exact h A' c' w' k1 k2
/-- .. in a plain region. -/
theorem wpList_apX {rest : List Oper} (hgd : o.guard = none) (s x : Operand) (ho : o.op = .call { callee := .builtin .append, args := #[s, x], argTypes := #[t, t'] })
    (ht : P.underlying t = some (.slice el)) (ht' : P.underlying t' = some (.slice e')) (hi : P.info? el = some i) (hz : i.zero = some zv) (hs : i.size = z) (hy : i.bytes = y) (hzs : zv.cells.size = z) (hz0 : 0 < z) (hy0 : y ≤ 1000)
    (h1 : a.eval s = .slice A n c) (h2 : a.eval x = .slice (some ad) 1 d) (hown : OwnX el z base w A n c l) (hx : xx.size = z) (hone : ∀ u ∈ xx.toList, u.oneCell' = true) (hr : ∀ j v, xx[j]? = some v → w.cell? (ad.add j) = some v) (hsz : n ≤ 1000000000) (hbase : base ≤ w.heap.size)
    (h : ∀ A' c' w', OwnX el z base w' A' (n + 1) c' (l ++ [xx]) → Below base w w' → wpList P ops Q rest (a.put o.dst (.slice A' (n + 1) c')) w') : wpList P ops Q (o :: rest) a w :=
  wpList_plain hgd fun _ hK => wp_apX s x ho ht ht' hi hz hs hy hzs hz0 hy0 h1 h2 hown hx hone hr hsz hbase fun A' c' w' k1 k2 => hK _ _ (h A' c' w' k1 k2)
/-- .. at a step of a region that draws its order. -/
theorem step_apX {K : Act → World → Prop} {E : Prop} (hgd : o.guard = none) (s x : Operand) (ho : o.op = .call { callee := .builtin .append, args := #[s, x], argTypes := #[t, t'] })
    (ht : P.underlying t = some (.slice el)) (ht' : P.underlying t' = some (.slice e')) (hi : P.info? el = some i) (hz : i.zero = some zv) (hs : i.size = z) (hy : i.bytes = y) (hzs : zv.cells.size = z) (hz0 : 0 < z) (hy0 : y ≤ 1000)
    (h1 : a.eval s = .slice A n c) (h2 : a.eval x = .slice (some ad) 1 d) (hown : OwnX el z base w A n c l) (hx : xx.size = z) (hone : ∀ u ∈ xx.toList, u.oneCell' = true) (hr : ∀ j v, xx[j]? = some v → w.cell? (ad.add j) = some v) (hsz : n ≤ 1000000000) (hbase : base ≤ w.heap.size)
    (h : ∀ A' c' w', OwnX el z base w' A' (n + 1) c' (l ++ [xx]) → Below base w w' → K (a.put o.dst (.slice A' (n + 1) c')) w') :
    if Region.wanted o (yielded ops a.tmps) = true then Oper.wp P o a w K Q else E := by
  have hw : Region.wanted o (yielded ops a.tmps) = true := by simp [Region.wanted, hgd]
  rw [if_pos hw]
  exact wp_apX s x ho ht ht' hi hz hs hy hzs hz0 hy0 h1 h2 hown hx hone hr hsz hbase h
end
/-- A block's cells, as an append asks for them. -/
theorem zeroX_at (g j : Nat) : (Addr.mk g 0 none).add j = Addr.mk g j none := by
  unfold Addr.add
  by_cases h : j = 0
  · rw [if_pos h, h]
  · rw [if_neg h]
    simp
theorem newX (W : World) (x : Array Value) (t : TypeId) : ∀ j v, x[j]? = some v → (W.alloc (.cells x t)).cell? ((⟨W.heap.size, 0, none⟩ : Addr).add j) = some v := by
  intro j v hv
  rw [zeroX_at, (blk_new W x t).cell j]
  exact hv
end Go.Proofs.YtfpfalgbkbmkeaaGreatDoor

namespace Go.Proofs.YtfpfalgbkbmkeaaGreatDoor
open Go.RowKit

abbrev strC (x : ByteArray) : Array Value := #[.string x]
abbrev intC (x : Int) : Array Value := #[.int .i64 x]
abbrev clV (x : Cl) : Value := .agg x.cells
abbrev lnV (x : Ln) : Value := .agg x.cells
/-- A call's answer: a row of bytes of the call's own. -/
def PutX (base : Nat) (w : World) (L : List UInt8) (e : Ending) (w' : World) : Prop := (∃ (A : Option Addr) (n c : Nat), e = .returned (.slice A n c) ∧ OwnB base w' A n c L) ∧ Below base w w'
set_option maxRecDepth 100000 in
theorem packNumberO_any (A : Option Addr) (n c : Nat) (l : List UInt8) (x : Nat) (w : World) (hl : l.length = n) (hn : n ≤ 1000000) (hr : RdB w.heap.size w A l) (hc : n ≤ c) (hx : x < 18446744073709551616) :
    Calls Tryz.prog 53 #[.slice A n c, .int .u64 x] w fun e w' => PutX w.heap.size w (l ++ numB x) e w' := by
  go_enter Tryz.func53, Tryz.ntmps53
  go_wp2_with fail
  refine (own_any A n c w hc).mono ?_
  rintro e w1 ⟨rfl, rfl⟩
  go_wp2_with fail
  refine (putNumber_any w1.heap.size A n n l x w1 (preB_of hl hn hr) (Nat.le_refl _) (by omega) hx).mono ?_
  rintro e w2 ⟨⟨A2, n2, c2, rfl, hO2⟩, hb2, -⟩
  go_wp2_with fail
  go_ret
  exact ⟨⟨A2, n2, c2, rfl, hO2⟩, hb2⟩
/-- A function value that answers each of these as bytes. -/
def PutsF {α : Type} (g : Nat) (arg : α → Value) (E : α → List UInt8) (l : List α) : Prop := ∀ x, x ∈ l → ∀ W, Calls Tryz.prog g #[arg x] W fun e W' => PutR W (E x) e W'
theorem map_get {α β : Type} {f : α → β} {l : List α} {k : Nat} {x : α} (h : l[k]? = some x) : (l.map f)[k]? = some (f x) := by rw [List.getElem?_map, h]; rfl
theorem take_flat {α : Type} {E : α → List UInt8} {L : List UInt8} {l : List α} {k : Nat} {x : α} (h : l[k]? = some x) : L ++ (l.take k).flatMap E ++ E x = L ++ (l.take (k + 1)).flatMap E := by
  rw [List.take_add_one, h]
  simp
theorem PreB.own {base : Nat} {W : World} {A : Option Addr} {n c : Nat} {l : List UInt8} (h : OwnB base W A n c l) : PreB base W A n c l := .inl h

set_option maxRecDepth 100000 in
set_option maxHeartbeats 4000000 in
theorem putAllS_any (base g : Nat) (E : ByteArray → List UInt8) (eg : ∀ args w, (callFunc g args).run Tryz.prog w = .ok (.enter g args) w) (A A2 : Option Addr) (n c m d : Nat) (L : List UInt8) (l : List ByteArray) (w : World) (hp : PreB base w A n c L) (ho : OwnB base w A n c L ∨ 0 < m) (hb : base ≤ w.heap.size) (hn : n ≤ 1000009)
    (hm : l.length = m) (hm1 : m ≤ 100000) (hr : RdX 1 base w A2 (l.map strC)) (hE : ∀ x, x ∈ l → 0 < (E x).length ∧ (E x).length ≤ 5000000) (hg : PutsF g Value.string E l) :
    Calls Tryz.prog 164 #[.slice A n c, .slice A2 m d, .func (.func g) #[] #[]] w fun e w' => PutX base w (L ++ l.flatMap E) e w' := by
  obtain ⟨i0, hi0, hz0, hz1, hz2⟩ := info_parts byt_info
  have HN := Lib.hid hm
  have HR := Lib.hid (fun W (h : Below base w W) => hr.keep (W' := W) h (Nat.le_refl _))
  have HF := Lib.hid hg
  have HO := Lib.hid ho
  clear hm hr hg ho
  go_enter Tryz.func164, Tryz.ntmps164
  go_wp2_with fail
  go_loopw [0, 8, 11] (fun b _ i wr => ∃ (k : Nat) (A3 : Option Addr) (n3 c3 : Nat), k ≤ m ∧ i = .int .i64 k ∧ b = .slice A3 n3 c3 ∧ n3 ≤ 1000009 + 5000000 * k ∧ PreB base wr A3 n3 c3 (L ++ (l.take k).flatMap E) ∧ Hid (OwnB base w A n c L ∨ 0 < k → OwnB base wr A3 n3 c3 (L ++ (l.take k).flatMap E)) ∧ Below base w wr) (fun _ _ i _ => m - (intOf i).toNat)
  case atStart => exact ⟨0, A, n, c, Nat.zero_le _, rfl, rfl, by omega, by simpa using hp, fun h => by simpa using h.resolve_right (by omega), Below.refl _ _⟩
  case round =>
    clear hp
    obtain ⟨k, A3, n3, d3, hk, rfl, rfl, hn3, hP, hO, hW⟩ := hrel
    by_cases hlt : k < m
    · obtain ⟨x, hx⟩ : ∃ x, l[k]? = some x := ⟨_, List.getElem?_eq_getElem (show k < l.length by have := HN.out; omega)⟩
      obtain ⟨ad, rfl, _, hc⟩ := HR.out wr hW k _ (map_get hx)
      have i1 : (0 : Int) ≤ (k : Int) := by omega
      have i2 : (k : Int) < (m : Int) := by omega
      obtain ⟨e1, e2⟩ := hE x (List.mem_of_getElem? hx)
      have HG := Lib.hid (HF.out x (List.mem_of_getElem? hx))
      have HE := Lib.hid (take_flat (E := E) (L := L) hx)
      clear hx hO
      have q0 : wr.cell? (ad.add k) = some (.string x) := by have := hc 0 _ rfl; simpa using this
      clear hc
      have hP2 := hP
      have hW2 := hW
      have hz := hW2.size
      go_wp2_with first
        | (go_at_fn g; refine (HG.out _).mono ?_; rintro e w2 ⟨⟨A4, n4, c4, rfl, hl4, hr4, hc4⟩, hb4⟩)
        | (at_builtin; refine wpList_apP (base := base) (n := n3) (m := n4) (l := L ++ (l.take k).flatMap E) (l2 := E x) (by rfl) _ _ (by rfl) Tryz.underlying33 Tryz.underlying33 hi0 hz0 hz1 hz2 (by rfl) (by rfl) (hP2.keep hb4) hr4 hl4 (by omega) (n3 + n4) rfl (by omega) (Nat.le_trans (Nat.le_trans hb hz) hb4.size) ?_; intro A5 c5 w5 hO5 hb5 _)
      rw [HE.out] at hO5
      have hW5 := (hW2.trans (hb4.mono (Nat.le_trans hb hz))).trans hb5
      go_roundw
      case rel => exact ⟨k + 1, A5, n3 + n4, c5, by omega, by go_num, rfl, by omega, .inl hO5, fun _ => hO5, hW5⟩
      case measure => simp [intOf]; omega
    · have hq : ¬ (k : Int) < (m : Int) := by omega
      have hE2 : L ++ (l.take k).flatMap E = L ++ l.flatMap E := by rw [List.take_of_length_le (by have := HN.out; omega)]
      have hO2 := hO.out (HO.out.imp id fun h => by omega)
      rw [hE2] at hO2
      clear hP hO hE2
      go_wp2_with fail
      go_ret
      exact ⟨⟨A3, n3, d3, rfl, hO2⟩, hW⟩

set_option maxRecDepth 100000 in
set_option maxHeartbeats 2000000 in
theorem putListS_any (g : Nat) (E : ByteArray → List UInt8) (eg : ∀ args w, (callFunc g args).run Tryz.prog w = .ok (.enter g args) w) (A A2 : Option Addr) (n c m d : Nat) (L : List UInt8) (l : List ByteArray) (w : World) (hl : L.length = n) (hn : n ≤ 1000000) (hc : n ≤ c) (hr : RdB w.heap.size w A L)
    (hm : l.length = m) (hm1 : m ≤ 100000) (hr2 : RdX 1 w.heap.size w A2 (l.map strC)) (hE : ∀ x, x ∈ l → 0 < (E x).length ∧ (E x).length ≤ 5000000) (hg : PutsF g Value.string E l) :
    Calls Tryz.prog 101 #[.slice A n c, .slice A2 m d, .func (.func g) #[] #[]] w fun e w' => PutX w.heap.size w (L ++ (numB m ++ l.flatMap E)) e w' := by
  have wn : IntKind.u64.wrap (m : Int) = (m : Int) := wrap_size (by omega)
  have HN := Lib.hid hm
  have HL := Lib.hid hl
  go_enter Tryz.func101, Tryz.ntmps101
  go_wp2_with fail
  refine (packNumberO_any A n c L m w hl hn hr hc (by omega)).mono ?_
  rintro e w1 ⟨⟨A1, n1, c1, rfl, hO1⟩, hb1⟩
  have hn1 := put_len hO1 hl (numB_small (n := m) (by omega))
  go_wp2_with fail
  refine (putAllS_any w.heap.size g E eg A1 A2 n1 c1 m d (L ++ numB m) l w1 (.inl hO1) (.inl hO1) hb1.size (by omega) HN.out hm1 (hr2.keep hb1 (Nat.le_refl _)) hE hg).mono ?_
  rintro e w2 ⟨⟨A4, n4, c4, rfl, hO4⟩, hb4⟩
  rw [List.append_assoc] at hO4
  go_wp2_with fail
  go_ret
  exact ⟨⟨A4, n4, c4, rfl, hO4⟩, hb1.trans hb4⟩

set_option maxRecDepth 100000 in
set_option maxHeartbeats 4000000 in
theorem putAllI_any (base g : Nat) (E : Int → List UInt8) (eg : ∀ args w, (callFunc g args).run Tryz.prog w = .ok (.enter g args) w) (A A2 : Option Addr) (n c m d : Nat) (L : List UInt8) (l : List Int) (w : World) (hp : PreB base w A n c L) (ho : OwnB base w A n c L ∨ 0 < m) (hb : base ≤ w.heap.size) (hn : n ≤ 1000009)
    (hm : l.length = m) (hm1 : m ≤ 100000) (hr : RdX 1 base w A2 (l.map intC)) (hE : ∀ x, x ∈ l → 0 < (E x).length ∧ (E x).length ≤ 5000000) (hg : PutsF g (Value.int .i64) E l) :
    Calls Tryz.prog 112 #[.slice A n c, .slice A2 m d, .func (.func g) #[] #[]] w fun e w' => PutX base w (L ++ l.flatMap E) e w' := by
  obtain ⟨i0, hi0, hz0, hz1, hz2⟩ := info_parts byt_info
  have HN := Lib.hid hm
  have HR := Lib.hid (fun W (h : Below base w W) => hr.keep (W' := W) h (Nat.le_refl _))
  have HF := Lib.hid hg
  have HO := Lib.hid ho
  clear hm hr hg ho
  go_enter Tryz.func112, Tryz.ntmps112
  go_wp2_with fail
  go_loopw [0, 8, 11] (fun b _ i wr => ∃ (k : Nat) (A3 : Option Addr) (n3 c3 : Nat), k ≤ m ∧ i = .int .i64 k ∧ b = .slice A3 n3 c3 ∧ n3 ≤ 1000009 + 5000000 * k ∧ PreB base wr A3 n3 c3 (L ++ (l.take k).flatMap E) ∧ Hid (OwnB base w A n c L ∨ 0 < k → OwnB base wr A3 n3 c3 (L ++ (l.take k).flatMap E)) ∧ Below base w wr) (fun _ _ i _ => m - (intOf i).toNat)
  case atStart => exact ⟨0, A, n, c, Nat.zero_le _, rfl, rfl, by omega, by simpa using hp, fun h => by simpa using h.resolve_right (by omega), Below.refl _ _⟩
  case round =>
    clear hp
    obtain ⟨k, A3, n3, d3, hk, rfl, rfl, hn3, hP, hO, hW⟩ := hrel
    by_cases hlt : k < m
    · obtain ⟨x, hx⟩ : ∃ x, l[k]? = some x := ⟨_, List.getElem?_eq_getElem (show k < l.length by have := HN.out; omega)⟩
      obtain ⟨ad, rfl, _, hc⟩ := HR.out wr hW k _ (map_get hx)
      have i1 : (0 : Int) ≤ (k : Int) := by omega
      have i2 : (k : Int) < (m : Int) := by omega
      obtain ⟨e1, e2⟩ := hE x (List.mem_of_getElem? hx)
      have HG := Lib.hid (HF.out x (List.mem_of_getElem? hx))
      have HE := Lib.hid (take_flat (E := E) (L := L) hx)
      clear hx hO
      have q0 : wr.cell? (ad.add k) = some (.int .i64 x) := by have := hc 0 _ rfl; simpa using this
      clear hc
      have hP2 := hP
      have hW2 := hW
      have hz := hW2.size
      go_wp2_with first
        | (go_at_fn g; refine (HG.out _).mono ?_; rintro e w2 ⟨⟨A4, n4, c4, rfl, hl4, hr4, hc4⟩, hb4⟩)
        | (at_builtin; refine wpList_apP (base := base) (n := n3) (m := n4) (l := L ++ (l.take k).flatMap E) (l2 := E x) (by rfl) _ _ (by rfl) Tryz.underlying33 Tryz.underlying33 hi0 hz0 hz1 hz2 (by rfl) (by rfl) (hP2.keep hb4) hr4 hl4 (by omega) (n3 + n4) rfl (by omega) (Nat.le_trans (Nat.le_trans hb hz) hb4.size) ?_; intro A5 c5 w5 hO5 hb5 _)
      rw [HE.out] at hO5
      have hW5 := (hW2.trans (hb4.mono (Nat.le_trans hb hz))).trans hb5
      go_roundw
      case rel => exact ⟨k + 1, A5, n3 + n4, c5, by omega, by go_num, rfl, by omega, .inl hO5, fun _ => hO5, hW5⟩
      case measure => simp [intOf]; omega
    · have hq : ¬ (k : Int) < (m : Int) := by omega
      have hE2 : L ++ (l.take k).flatMap E = L ++ l.flatMap E := by rw [List.take_of_length_le (by have := HN.out; omega)]
      have hO2 := hO.out (HO.out.imp id fun h => by omega)
      rw [hE2] at hO2
      clear hP hO hE2
      go_wp2_with fail
      go_ret
      exact ⟨⟨A3, n3, d3, rfl, hO2⟩, hW⟩

set_option maxRecDepth 100000 in
set_option maxHeartbeats 4000000 in
theorem putAllC_any (base g : Nat) (E : Cl → List UInt8) (eg : ∀ args w, (callFunc g args).run Tryz.prog w = .ok (.enter g args) w) (A A2 : Option Addr) (n c m d : Nat) (L : List UInt8) (l : List Cl) (w : World) (hp : PreB base w A n c L) (ho : OwnB base w A n c L ∨ 0 < m) (hb : base ≤ w.heap.size) (hn : n ≤ 1000009)
    (hm : l.length = m) (hm1 : m ≤ 100000) (hr : RdX 4 base w A2 (l.map Cl.cells)) (hE : ∀ x, x ∈ l → 0 < (E x).length ∧ (E x).length ≤ 5000000) (hg : PutsF g clV E l) :
    Calls Tryz.prog 168 #[.slice A n c, .slice A2 m d, .func (.func g) #[] #[]] w fun e w' => PutX base w (L ++ l.flatMap E) e w' := by
  obtain ⟨i0, hi0, hz0, hz1, hz2⟩ := info_parts byt_info
  have HN := Lib.hid hm
  have HR := Lib.hid (fun W (h : Below base w W) => hr.keep (W' := W) h (Nat.le_refl _))
  have HF := Lib.hid hg
  have HO := Lib.hid ho
  clear hm hr hg ho
  go_enter Tryz.func168, Tryz.ntmps168
  go_wp2_with fail
  go_loopw [0, 11] (fun b i wr => ∃ (k : Nat) (A3 : Option Addr) (n3 c3 : Nat), k ≤ m ∧ i = .int .i64 k ∧ b = .slice A3 n3 c3 ∧ n3 ≤ 1000009 + 5000000 * k ∧ PreB base wr A3 n3 c3 (L ++ (l.take k).flatMap E) ∧ Hid (OwnB base w A n c L ∨ 0 < k → OwnB base wr A3 n3 c3 (L ++ (l.take k).flatMap E)) ∧ Below base w wr) (fun _ i _ => m - (intOf i).toNat)
  case atStart => exact ⟨0, A, n, c, Nat.zero_le _, rfl, rfl, by omega, by simpa using hp, fun h => by simpa using h.resolve_right (by omega), Below.refl _ _⟩
  case round =>
    clear hp
    obtain ⟨k, A3, n3, d3, hk, rfl, rfl, hn3, hP, hO, hW⟩ := hrel
    by_cases hlt : k < m
    · obtain ⟨x, hx⟩ : ∃ x, l[k]? = some x := ⟨_, List.getElem?_eq_getElem (show k < l.length by have := HN.out; omega)⟩
      obtain ⟨ad, rfl, _, hc⟩ := HR.out wr hW k _ (map_get hx)
      have i1 : (0 : Int) ≤ (k : Int) := by omega
      have i2 : (k : Int) < (m : Int) := by omega
      obtain ⟨e1, e2⟩ := hE x (List.mem_of_getElem? hx)
      have HG := Lib.hid (HF.out x (List.mem_of_getElem? hx))
      have HE := Lib.hid (take_flat (E := E) (L := L) hx)
      clear hx hO
      have q0 : wr.cell? (ad.add (k * 4)) = some (.string x.ky) := (celX hc).1 _ rfl
      have q1 : wr.cell? ⟨(ad.add (k * 4)).block, (ad.add (k * 4)).off + 1, none⟩ = some (.int .i64 x.k) := (celX hc).2 0 _ rfl
      have q2 : wr.cell? ⟨(ad.add (k * 4)).block, (ad.add (k * 4)).off + 2, none⟩ = some (.int .i64 x.x) := (celX hc).2 1 _ rfl
      have q3 : wr.cell? ⟨(ad.add (k * 4)).block, (ad.add (k * 4)).off + 3, none⟩ = some (.string x.s) := (celX hc).2 2 _ rfl
      clear hc
      have hP2 := hP.keep (b0 wr (.cells x.cells 57))
      have hW2 := hW.alloc (Nat.le_trans hb hW.size) (.cells x.cells 57)
      have hz := hW2.size
      go_wp2_with first
        | (go_at_fn g; refine (HG.out _).mono ?_; rintro e w2 ⟨⟨A4, n4, c4, rfl, hl4, hr4, hc4⟩, hb4⟩)
        | (at_builtin; refine wpList_apP (base := base) (n := n3) (m := n4) (l := L ++ (l.take k).flatMap E) (l2 := E x) (by rfl) _ _ (by rfl) Tryz.underlying33 Tryz.underlying33 hi0 hz0 hz1 hz2 (by rfl) (by rfl) (hP2.keep hb4) hr4 hl4 (by omega) (n3 + n4) rfl (by omega) (Nat.le_trans (Nat.le_trans hb hz) hb4.size) ?_; intro A5 c5 w5 hO5 hb5 _)
      rw [HE.out] at hO5
      have hW5 := (hW2.trans (hb4.mono (Nat.le_trans hb hz))).trans hb5
      go_roundw
      case rel => exact ⟨k + 1, A5, n3 + n4, c5, by omega, by go_num, rfl, by omega, .inl hO5, fun _ => hO5, hW5⟩
      case measure => simp [intOf]; omega
    · have hq : ¬ (k : Int) < (m : Int) := by omega
      have hE2 : L ++ (l.take k).flatMap E = L ++ l.flatMap E := by rw [List.take_of_length_le (by have := HN.out; omega)]
      have hO2 := hO.out (HO.out.imp id fun h => by omega)
      rw [hE2] at hO2
      clear hP hO hE2
      go_wp2_with fail
      go_ret
      exact ⟨⟨A3, n3, d3, rfl, hO2⟩, hW⟩

set_option maxRecDepth 100000 in
set_option maxHeartbeats 2000000 in
theorem putListC_any (g : Nat) (E : Cl → List UInt8) (eg : ∀ args w, (callFunc g args).run Tryz.prog w = .ok (.enter g args) w) (A A2 : Option Addr) (n c m d : Nat) (L : List UInt8) (l : List Cl) (w : World) (hl : L.length = n) (hn : n ≤ 1000000) (hc : n ≤ c) (hr : RdB w.heap.size w A L)
    (hm : l.length = m) (hm1 : m ≤ 100000) (hr2 : RdX 4 w.heap.size w A2 (l.map Cl.cells)) (hE : ∀ x, x ∈ l → 0 < (E x).length ∧ (E x).length ≤ 5000000) (hg : PutsF g clV E l) :
    Calls Tryz.prog 109 #[.slice A n c, .slice A2 m d, .func (.func g) #[] #[]] w fun e w' => PutX w.heap.size w (L ++ (numB m ++ l.flatMap E)) e w' := by
  have wn : IntKind.u64.wrap (m : Int) = (m : Int) := wrap_size (by omega)
  have HN := Lib.hid hm
  have HL := Lib.hid hl
  go_enter Tryz.func109, Tryz.ntmps109
  go_wp2_with fail
  refine (packNumberO_any A n c L m w hl hn hr hc (by omega)).mono ?_
  rintro e w1 ⟨⟨A1, n1, c1, rfl, hO1⟩, hb1⟩
  have hn1 := put_len hO1 hl (numB_small (n := m) (by omega))
  go_wp2_with fail
  refine (putAllC_any w.heap.size g E eg A1 A2 n1 c1 m d (L ++ numB m) l w1 (.inl hO1) (.inl hO1) hb1.size (by omega) HN.out hm1 (hr2.keep hb1 (Nat.le_refl _)) hE hg).mono ?_
  rintro e w2 ⟨⟨A4, n4, c4, rfl, hO4⟩, hb4⟩
  rw [List.append_assoc] at hO4
  go_wp2_with fail
  go_ret
  exact ⟨⟨A4, n4, c4, rfl, hO4⟩, hb1.trans hb4⟩

set_option maxRecDepth 100000 in
set_option maxHeartbeats 4000000 in
theorem putAllL_any (base g : Nat) (E : Ln → List UInt8) (eg : ∀ args w, (callFunc g args).run Tryz.prog w = .ok (.enter g args) w) (A A2 : Option Addr) (n c m d : Nat) (L : List UInt8) (l : List Ln) (w : World) (hp : PreB base w A n c L) (ho : OwnB base w A n c L ∨ 0 < m) (hb : base ≤ w.heap.size) (hn : n ≤ 1000009)
    (hm : l.length = m) (hm1 : m ≤ 100000) (hr : RdX 11 base w A2 (l.map Ln.cells)) (hE : ∀ x, x ∈ l → 0 < (E x).length ∧ (E x).length ≤ 5000000) (hg : PutsF g lnV E l) :
    Calls Tryz.prog 167 #[.slice A n c, .slice A2 m d, .func (.func g) #[] #[]] w fun e w' => PutX base w (L ++ l.flatMap E) e w' := by
  obtain ⟨i0, hi0, hz0, hz1, hz2⟩ := info_parts byt_info
  have HN := Lib.hid hm
  have HR := Lib.hid (fun W (h : Below base w W) => hr.keep (W' := W) h (Nat.le_refl _))
  have HF := Lib.hid hg
  have HO := Lib.hid ho
  clear hm hr hg ho
  go_enter Tryz.func167, Tryz.ntmps167
  go_wp2_with fail
  go_loopw [0, 11] (fun b i wr => ∃ (k : Nat) (A3 : Option Addr) (n3 c3 : Nat), k ≤ m ∧ i = .int .i64 k ∧ b = .slice A3 n3 c3 ∧ n3 ≤ 1000009 + 5000000 * k ∧ PreB base wr A3 n3 c3 (L ++ (l.take k).flatMap E) ∧ Hid (OwnB base w A n c L ∨ 0 < k → OwnB base wr A3 n3 c3 (L ++ (l.take k).flatMap E)) ∧ Below base w wr) (fun _ i _ => m - (intOf i).toNat)
  case atStart => exact ⟨0, A, n, c, Nat.zero_le _, rfl, rfl, by omega, by simpa using hp, fun h => by simpa using h.resolve_right (by omega), Below.refl _ _⟩
  case round =>
    clear hp
    obtain ⟨k, A3, n3, d3, hk, rfl, rfl, hn3, hP, hO, hW⟩ := hrel
    by_cases hlt : k < m
    · obtain ⟨x, hx⟩ : ∃ x, l[k]? = some x := ⟨_, List.getElem?_eq_getElem (show k < l.length by have := HN.out; omega)⟩
      obtain ⟨ad, rfl, _, hc⟩ := HR.out wr hW k _ (map_get hx)
      have i1 : (0 : Int) ≤ (k : Int) := by omega
      have i2 : (k : Int) < (m : Int) := by omega
      obtain ⟨e1, e2⟩ := hE x (List.mem_of_getElem? hx)
      have HG := Lib.hid (HF.out x (List.mem_of_getElem? hx))
      have HE := Lib.hid (take_flat (E := E) (L := L) hx)
      clear hx hO
      have q0 : wr.cell? (ad.add (k * 11)) = some (.int .i64 x.pl) := (celX hc).1 _ rfl
      have q1 : wr.cell? ⟨(ad.add (k * 11)).block, (ad.add (k * 11)).off + 1, none⟩ = some (.int .i64 x.w.dev) := (celX hc).2 0 _ rfl
      have q2 : wr.cell? ⟨(ad.add (k * 11)).block, (ad.add (k * 11)).off + 2, none⟩ = some (.int .i64 x.w.seq) := (celX hc).2 1 _ rfl
      have q3 : wr.cell? ⟨(ad.add (k * 11)).block, (ad.add (k * 11)).off + 3, none⟩ = some (.int .i64 x.w.K) := (celX hc).2 2 _ rfl
      have q4 : wr.cell? ⟨(ad.add (k * 11)).block, (ad.add (k * 11)).off + 4, none⟩ = some (.string x.w.ky) := (celX hc).2 3 _ rfl
      have q5 : wr.cell? ⟨(ad.add (k * 11)).block, (ad.add (k * 11)).off + 5, none⟩ = some (.int .i64 x.w.ka) := (celX hc).2 4 _ rfl
      have q6 : wr.cell? ⟨(ad.add (k * 11)).block, (ad.add (k * 11)).off + 6, none⟩ = some (.int .i64 x.w.na) := (celX hc).2 5 _ rfl
      have q7 : wr.cell? ⟨(ad.add (k * 11)).block, (ad.add (k * 11)).off + 7, none⟩ = some (.string x.w.sa) := (celX hc).2 6 _ rfl
      have q8 : wr.cell? ⟨(ad.add (k * 11)).block, (ad.add (k * 11)).off + 8, none⟩ = some (.int .i64 x.w.kb) := (celX hc).2 7 _ rfl
      have q9 : wr.cell? ⟨(ad.add (k * 11)).block, (ad.add (k * 11)).off + 9, none⟩ = some (.int .i64 x.w.nb) := (celX hc).2 8 _ rfl
      have q10 : wr.cell? ⟨(ad.add (k * 11)).block, (ad.add (k * 11)).off + 10, none⟩ = some (.string x.w.sb) := (celX hc).2 9 _ rfl
      clear hc
      have hP2 := hP.keep (b0 wr (.cells x.cells 140))
      have hW2 := hW.alloc (Nat.le_trans hb hW.size) (.cells x.cells 140)
      have hz := hW2.size
      go_wp2_with first
        | (go_at_fn g; refine (HG.out _).mono ?_; rintro e w2 ⟨⟨A4, n4, c4, rfl, hl4, hr4, hc4⟩, hb4⟩)
        | (at_builtin; refine wpList_apP (base := base) (n := n3) (m := n4) (l := L ++ (l.take k).flatMap E) (l2 := E x) (by rfl) _ _ (by rfl) Tryz.underlying33 Tryz.underlying33 hi0 hz0 hz1 hz2 (by rfl) (by rfl) (hP2.keep hb4) hr4 hl4 (by omega) (n3 + n4) rfl (by omega) (Nat.le_trans (Nat.le_trans hb hz) hb4.size) ?_; intro A5 c5 w5 hO5 hb5 _)
      rw [HE.out] at hO5
      have hW5 := (hW2.trans (hb4.mono (Nat.le_trans hb hz))).trans hb5
      go_roundw
      case rel => exact ⟨k + 1, A5, n3 + n4, c5, by omega, by go_num, rfl, by omega, .inl hO5, fun _ => hO5, hW5⟩
      case measure => simp [intOf]; omega
    · have hq : ¬ (k : Int) < (m : Int) := by omega
      have hE2 : L ++ (l.take k).flatMap E = L ++ l.flatMap E := by rw [List.take_of_length_le (by have := HN.out; omega)]
      have hO2 := hO.out (HO.out.imp id fun h => by omega)
      rw [hE2] at hO2
      clear hP hO hE2
      go_wp2_with fail
      go_ret
      exact ⟨⟨A3, n3, d3, rfl, hO2⟩, hW⟩

set_option maxRecDepth 100000 in
set_option maxHeartbeats 2000000 in
theorem putListL_any (g : Nat) (E : Ln → List UInt8) (eg : ∀ args w, (callFunc g args).run Tryz.prog w = .ok (.enter g args) w) (A A2 : Option Addr) (n c m d : Nat) (L : List UInt8) (l : List Ln) (w : World) (hl : L.length = n) (hn : n ≤ 1000000) (hc : n ≤ c) (hr : RdB w.heap.size w A L)
    (hm : l.length = m) (hm1 : m ≤ 100000) (hr2 : RdX 11 w.heap.size w A2 (l.map Ln.cells)) (hE : ∀ x, x ∈ l → 0 < (E x).length ∧ (E x).length ≤ 5000000) (hg : PutsF g lnV E l) :
    Calls Tryz.prog 105 #[.slice A n c, .slice A2 m d, .func (.func g) #[] #[]] w fun e w' => PutX w.heap.size w (L ++ (numB m ++ l.flatMap E)) e w' := by
  have wn : IntKind.u64.wrap (m : Int) = (m : Int) := wrap_size (by omega)
  have HN := Lib.hid hm
  have HL := Lib.hid hl
  go_enter Tryz.func105, Tryz.ntmps105
  go_wp2_with fail
  refine (packNumberO_any A n c L m w hl hn hr hc (by omega)).mono ?_
  rintro e w1 ⟨⟨A1, n1, c1, rfl, hO1⟩, hb1⟩
  have hn1 := put_len hO1 hl (numB_small (n := m) (by omega))
  go_wp2_with fail
  refine (putAllL_any w.heap.size g E eg A1 A2 n1 c1 m d (L ++ numB m) l w1 (.inl hO1) (.inl hO1) hb1.size (by omega) HN.out hm1 (hr2.keep hb1 (Nat.le_refl _)) hE hg).mono ?_
  rintro e w2 ⟨⟨A4, n4, c4, rfl, hO4⟩, hb4⟩
  rw [List.append_assoc] at hO4
  go_wp2_with fail
  go_ret
  exact ⟨⟨A4, n4, c4, rfl, hO4⟩, hb1.trans hb4⟩
end Go.Proofs.YtfpfalgbkbmkeaaGreatDoor
