/-
  WHAT IS PROVED: package pack's calls that put things behind other bytes (Number, Int, Text, Flag, Value, Write, Writes): the document's bytes, and what was handed in stays. Conditions: those typed in each theorem. · package pack's calls that put values and writes behind other bytes (Value, Write, Writes): the document's bytes, and what was handed in stays. Conditions: those typed in each theorem. · package roll's calls that put lists behind other bytes (putAll, putList of each kind of element): the document's bytes, behind what was handed in, which stays. Conditions: those typed in each theorem. · package roll's calls that put reaches, cells, lines and lasts behind other bytes (PutReach, PutCells, PutLines, PutLasts): the document's bytes, behind what was handed in, which stays. Conditions: those typed in each theorem. · words for an array of twelve numbers; package roll's PutLasts: the document's bytes, behind what was handed in, which stays. Conditions: those typed in each theorem.
-/
import Derived.Test.YtpjleeeligahaaaGreatDoorGQ5
import Derived.Test.YtpjleeeligahaaaGreatDoorGQ3
import Derived.Test.YtpjleeeligahaaaGreatDoorGQ2
namespace Go.Proofs.YtpjleeeligahaaaGreatDoor
open Go.RowKit

theorem PutO.putR {w W : World} {L : List UInt8} {e : Ending} {w' : World} (hB : Below w.heap.size w W) (h : PutO w.heap.size W L e w') : PutR w L e w' := by
  obtain ⟨⟨A, n, c, rfl, hO⟩, hb, _⟩ := h
  exact ⟨⟨A, n, c, rfl, hO.len, hO.rd, hO.cap.1⟩, hB.trans hb⟩
theorem preB_of {w : World} {A : Option Addr} {n : Nat} {l : List UInt8} (hl : l.length = n) (hn : n ≤ 1000000) (hr : RdB w.heap.size w A l) : PreB w.heap.size w A n n l := .inr ⟨hr, hl, rfl, hn⟩

set_option maxRecDepth 100000 in
theorem packNumber_any (A : Option Addr) (n c : Nat) (l : List UInt8) (x : Nat) (w : World) (hl : l.length = n) (hn : n ≤ 100000) (hr : RdB w.heap.size w A l) (hc : n ≤ c) (hx : x < 18446744073709551616) :
    Calls Tryz.prog 62 #[.slice A n c, .int .u64 x] w fun e w' => PutR w (l ++ numB x) e w' := by
  go_enter Tryz.func62, Tryz.ntmps62
  go_wp2_with fail
  refine (own_any A n c w hc).mono ?_
  rintro e w1 ⟨rfl, rfl⟩
  go_wp2_with fail
  refine (putNumber_any w1.heap.size A n n l x w1 (preB_of hl (by omega) hr) (Nat.le_refl _) (by omega) hx).mono ?_
  rintro e w2 hP
  obtain ⟨⟨A2, n2, c2, rfl, hr2⟩, hb2⟩ := PutO.putR (Below.refl _ _) hP
  go_wp2_with fail
  go_ret
  exact ⟨⟨A2, n2, c2, rfl, hr2⟩, hb2⟩

set_option maxRecDepth 100000 in
theorem packText_any (A : Option Addr) (n c : Nat) (l : List UInt8) (s : ByteArray) (w : World) (hl : l.length = n) (hn : n ≤ 100000) (hr : RdB w.heap.size w A l) (hc : n ≤ c) (hs : s.size ≤ 100000) :
    Calls Tryz.prog 55 #[.slice A n c, .string s] w fun e w' => PutR w (l ++ textB s.data.toList) e w' := by
  go_enter Tryz.func55, Tryz.ntmps55
  go_wp2_with fail
  refine (own_any A n c w hc).mono ?_
  rintro e w1 ⟨rfl, rfl⟩
  go_wp2_with fail
  refine (putText_any w1.heap.size A n n l s w1 (preB_of hl (by omega) hr) (Nat.le_refl _) (by omega) (by omega)).mono ?_
  rintro e w2 hP
  obtain ⟨⟨A2, n2, c2, rfl, hr2⟩, hb2⟩ := PutO.putR (Below.refl _ _) hP
  go_wp2_with fail
  go_ret
  exact ⟨⟨A2, n2, c2, rfl, hr2⟩, hb2⟩

set_option maxRecDepth 100000 in
theorem packFlag_any (A : Option Addr) (n c : Nat) (l : List UInt8) (f : Bool) (w : World) (hl : l.length = n) (hn : n ≤ 200000) (hr : RdB w.heap.size w A l) (hc : n ≤ c) :
    Calls Tryz.prog 99 #[.slice A n c, .bool f] w fun e w' => PutR w (l ++ flagB f) e w' := by
  obtain ⟨i0, hi0, hz0, hz1, hz2⟩ := info_parts byt_info
  have hp := preB_of hl (by omega) hr
  cases f with
  | true =>
    have hp2 := hp.keep (b0 w (.cells #[.int .u8 1] 5))
    have hr2 := (litB w (base := w.heap.size) 1 1 rfl (Nat.le_refl _)).rd
    have hB := b0 w (.cells #[.int .u8 1] 5)
    go_enter Tryz.func99, Tryz.ntmps99
    go_wp2_with first
      | (go_at_call 64; refine (own_any A n c w hc).mono ?_; rintro e w1 ⟨rfl, rfl⟩)
      | (at_builtin; refine wpList_apP (base := w1.heap.size) (n := n) (m := 1) (l := l) (l2 := [1]) (by rfl) _ _ (by rfl) Tryz.underlying23 Tryz.underlying23 hi0 hz0 hz1 hz2 (by rfl) (by rfl) hp2 hr2 rfl (by omega) (n + 1) rfl (by omega) hB.size ?_; intro A5 c5 w5 hO5 hb5 ho5)
    go_ret
    exact ⟨⟨A5, n + 1, c5, rfl, hO5.len, hO5.rd, hO5.cap.1⟩, hB.trans hb5⟩
  | false =>
    have hp2 := hp.keep (b0 w (.cells #[.int .u8 0] 5))
    have hr2 := (litB w (base := w.heap.size) 0 0 rfl (Nat.le_refl _)).rd
    have hB := b0 w (.cells #[.int .u8 0] 5)
    go_enter Tryz.func99, Tryz.ntmps99
    go_wp2_with first
      | (go_at_call 64; refine (own_any A n c w hc).mono ?_; rintro e w1 ⟨rfl, rfl⟩)
      | (at_builtin; refine wpList_apP (base := w1.heap.size) (n := n) (m := 1) (l := l) (l2 := [0]) (by rfl) _ _ (by rfl) Tryz.underlying23 Tryz.underlying23 hi0 hz0 hz1 hz2 (by rfl) (by rfl) hp2 hr2 rfl (by omega) (n + 1) rfl (by omega) hB.size ?_; intro A5 c5 w5 hO5 hb5 ho5)
    go_ret
    exact ⟨⟨A5, n + 1, c5, rfl, hO5.len, hO5.rd, hO5.cap.1⟩, hB.trans hb5⟩
end Go.Proofs.YtpjleeeligahaaaGreatDoor

namespace Go.Proofs.YtpjleeeligahaaaGreatDoor
open Go.RowKit

section
variable {W w0 w' w1 : World} {b B : Nat} {v0 v1 v2 : Value} {t : TypeId}
theorem sV0 (h : Blk W b #[v0, v1, v2] t) (hB : Below B w0 W) : W.drew.cell? ⟨b, 0, none⟩ = some v0 ∧ W.drew.cell? ⟨b, 1, none⟩ = some v1 ∧ W.drew.cell? ⟨b, 2, none⟩ = some v2 ∧ Blk W.drew b #[v0, v1, v2] t ∧ Below B w0 W.drew :=
  ⟨h.cell 0, h.cell 1, h.cell 2, h, hB.drew⟩
theorem sV1 (h : w'.cell? ⟨b, 0, none⟩ = some v0 ∧ w'.cell? ⟨b, 1, none⟩ = some v1 ∧ w'.cell? ⟨b, 2, none⟩ = some v2 ∧ Blk w' b #[v0, v1, v2] t ∧ Below B w0 w') (hb : Below B w' w1) (ho : Oth w' w1) (ht : t ≠ 5) :
    w1.cell? ⟨b, 0, none⟩ = some v0 ∧ w1.cell? ⟨b, 1, none⟩ = some v1 ∧ w1.cell? ⟨b, 2, none⟩ = some v2 ∧ Blk w1 b #[v0, v1, v2] t ∧ Below B w0 w1 := by
  have hk := ho.blk ht h.2.2.2.1
  exact ⟨hk.cell 0, hk.cell 1, hk.cell 2, hk, h.2.2.2.2.trans hb⟩
theorem sVB (h : w'.cell? ⟨b, 0, none⟩ = some v0 ∧ w'.cell? ⟨b, 1, none⟩ = some v1 ∧ w'.cell? ⟨b, 2, none⟩ = some v2 ∧ Blk w' b #[v0, v1, v2] t ∧ Below B w0 w') : Below B w0 w' := h.2.2.2.2
end
section
variable {W w0 w' w1 : World} {b B : Nat} {v0 v1 v2 v3 v4 v5 v6 v7 v8 v9 : Value} {t : TypeId}
theorem sW0 (h : Blk W b #[v0, v1, v2, v3, v4, v5, v6, v7, v8, v9] t) (hB : Below B w0 W) : W.drew.cell? ⟨b, 0, none⟩ = some v0 ∧ W.drew.cell? ⟨b, 1, none⟩ = some v1 ∧ W.drew.cell? ⟨b, 2, none⟩ = some v2 ∧ W.drew.cell? ⟨b, 3, none⟩ = some v3 ∧ W.drew.cell? ⟨b, 4, none⟩ = some v4 ∧ W.drew.cell? ⟨b, 5, none⟩ = some v5 ∧ W.drew.cell? ⟨b, 6, none⟩ = some v6 ∧ W.drew.cell? ⟨b, 7, none⟩ = some v7 ∧ W.drew.cell? ⟨b, 8, none⟩ = some v8 ∧ W.drew.cell? ⟨b, 9, none⟩ = some v9 ∧ Blk W.drew b #[v0, v1, v2, v3, v4, v5, v6, v7, v8, v9] t ∧ Below B w0 W.drew :=
  ⟨h.cell 0, h.cell 1, h.cell 2, h.cell 3, h.cell 4, h.cell 5, h.cell 6, h.cell 7, h.cell 8, h.cell 9, h, hB.drew⟩
theorem sW1 (h : w'.cell? ⟨b, 0, none⟩ = some v0 ∧ w'.cell? ⟨b, 1, none⟩ = some v1 ∧ w'.cell? ⟨b, 2, none⟩ = some v2 ∧ w'.cell? ⟨b, 3, none⟩ = some v3 ∧ w'.cell? ⟨b, 4, none⟩ = some v4 ∧ w'.cell? ⟨b, 5, none⟩ = some v5 ∧ w'.cell? ⟨b, 6, none⟩ = some v6 ∧ w'.cell? ⟨b, 7, none⟩ = some v7 ∧ w'.cell? ⟨b, 8, none⟩ = some v8 ∧ w'.cell? ⟨b, 9, none⟩ = some v9 ∧ Blk w' b #[v0, v1, v2, v3, v4, v5, v6, v7, v8, v9] t ∧ Below B w0 w') (hb : Below B w' w1) (ho : Oth w' w1) (ht : t ≠ 5) :
    w1.cell? ⟨b, 0, none⟩ = some v0 ∧ w1.cell? ⟨b, 1, none⟩ = some v1 ∧ w1.cell? ⟨b, 2, none⟩ = some v2 ∧ w1.cell? ⟨b, 3, none⟩ = some v3 ∧ w1.cell? ⟨b, 4, none⟩ = some v4 ∧ w1.cell? ⟨b, 5, none⟩ = some v5 ∧ w1.cell? ⟨b, 6, none⟩ = some v6 ∧ w1.cell? ⟨b, 7, none⟩ = some v7 ∧ w1.cell? ⟨b, 8, none⟩ = some v8 ∧ w1.cell? ⟨b, 9, none⟩ = some v9 ∧ Blk w1 b #[v0, v1, v2, v3, v4, v5, v6, v7, v8, v9] t ∧ Below B w0 w1 := by
  have hk := ho.blk ht h.2.2.2.2.2.2.2.2.2.2.1
  exact ⟨hk.cell 0, hk.cell 1, hk.cell 2, hk.cell 3, hk.cell 4, hk.cell 5, hk.cell 6, hk.cell 7, hk.cell 8, hk.cell 9, hk, h.2.2.2.2.2.2.2.2.2.2.2.trans hb⟩
theorem sWB (h : w'.cell? ⟨b, 0, none⟩ = some v0 ∧ w'.cell? ⟨b, 1, none⟩ = some v1 ∧ w'.cell? ⟨b, 2, none⟩ = some v2 ∧ w'.cell? ⟨b, 3, none⟩ = some v3 ∧ w'.cell? ⟨b, 4, none⟩ = some v4 ∧ w'.cell? ⟨b, 5, none⟩ = some v5 ∧ w'.cell? ⟨b, 6, none⟩ = some v6 ∧ w'.cell? ⟨b, 7, none⟩ = some v7 ∧ w'.cell? ⟨b, 8, none⟩ = some v8 ∧ w'.cell? ⟨b, 9, none⟩ = some v9 ∧ Blk w' b #[v0, v1, v2, v3, v4, v5, v6, v7, v8, v9] t ∧ Below B w0 w') : Below B w0 w' := h.2.2.2.2.2.2.2.2.2.2.2
end
theorem pre_in {w W : World} {A : Option Addr} {n : Nat} {l : List UInt8} (hl : l.length = n) (hn : n ≤ 1000000) (hr : RdB w.heap.size w A l) (hb : Below w.heap.size w W) : PreB w.heap.size W A n n l :=
  .inr ⟨(hr.keep hb (Nat.le_refl _)).more hb.size, hl, rfl, hn⟩

set_option maxRecDepth 100000 in
set_option maxHeartbeats 2000000 in
theorem packValue_any (A : Option Addr) (n c : Nat) (l : List UInt8) (k x : Int) (s : ByteArray) (w : World) (hl : l.length = n) (hn : n ≤ 100000) (hr : RdB w.heap.size w A l) (hc : n ≤ c) (hg : goodB k x s = true) (h0 : -9223372036854775808 ≤ x) (h1 : x ≤ 9223372036854775807) :
    Calls Tryz.prog 58 #[.slice A n c, .agg #[.int .i64 k, .int .i64 x, .string s]] w fun e w' => PutR w (l ++ valB k x s.data.toList) e w' := by
  have hG := goodB_in hg
  have HV := Lib.hid (fun W (hb : Below w.heap.size w W) => putValue_any w.heap.size A n n l k x s W (pre_in hl (by omega) hr hb) hb.size (show n ≤ 90000000000 by omega) hG.1 h0 h1 (by have := hG.2; omega))
  clear hg hG h0 h1 hr hl
  go_enter Tryz.func58, Tryz.ntmps58
  go_wp2_with fail
  have hC := blk_new w #[.int .i64 k, .int .i64 x, .string s] 43
  have hB := b0 w (.cells #[.int .i64 k, .int .i64 x, .string s] 43)
  generalize w.alloc (.cells #[.int .i64 k, .int .i64 x, .string s] 43) = W at hC hB ⊢
  generalize hb : w.heap.size = b at hC hB HV ⊢
  go_region_held3 (fun w' => w'.cell? ⟨b, 0, none⟩ = some (.int .i64 k) ∧ w'.cell? ⟨b, 1, none⟩ = some (.int .i64 x) ∧ w'.cell? ⟨b, 2, none⟩ = some (.string s) ∧ Blk w' b #[.int .i64 k, .int .i64 x, .string s] 43 ∧ Below b w w')
    (first | assumption | exact sV0 hC hB | exact sV1 (by assumption) (by assumption) (by assumption) (by decide))
    (first
      | (go_at_call 64; ((with_reducible refine (own_any A n c _ hc).mono ?_); rintro e w1 ⟨rfl, rfl⟩))
      | (go_at_call 110; ((with_reducible refine (HV.out _ (sVB (by assumption))).mono ?_); rintro e w2 ⟨⟨A2, n2, c2, rfl, hO2⟩, hb2, ho2⟩)))
  have hfin := sVB (w' := w2) (by assumption)
  go_wp2_with fail
  go_ret
  exact ⟨⟨A2, n2, c2, rfl, hO2.len, (by subst hb; exact hO2.rd), hO2.cap.1⟩, by rw [hb]; exact hfin⟩

set_option maxRecDepth 100000 in
set_option maxHeartbeats 4000000 in
theorem packWrite_any (A : Option Addr) (n c : Nat) (l : List UInt8) (x : Wr) (w : World) (hl : l.length = n) (hn : n ≤ 100000) (hr : RdB w.heap.size w A l) (hc : n ≤ c) (hg : x.good = true) (hf : x.fits) :
    Calls Tryz.prog 28 #[.slice A n c, .agg x.cells] w fun e w' => PutR w (l ++ wB x) e w' := by
  have HV := Lib.hid (fun W (hb : Below w.heap.size w W) => putWrite_any w.heap.size A n n l x W (pre_in hl (by omega) hr hb) hb.size (show n ≤ 80000000000 by omega) hg hf)
  clear hg hf hr hl
  obtain ⟨dev, seq, K, ky, ka, na, sa, kb, nb, sb⟩ := x
  go_enter Tryz.func28, Tryz.ntmps28
  go_wp2_with fail
  have hC := blk_new w (wrI dev seq K ky ka na sa kb nb sb) 47
  have hB := b0 w (.cells (wrI dev seq K ky ka na sa kb nb sb) 47)
  generalize w.alloc (.cells (wrI dev seq K ky ka na sa kb nb sb) 47) = W at hC hB ⊢
  generalize hb : w.heap.size = b at hC hB HV ⊢
  go_region_held3 (fun w' => w'.cell? ⟨b, 0, none⟩ = some (.int .i64 dev) ∧ w'.cell? ⟨b, 1, none⟩ = some (.int .i64 seq) ∧ w'.cell? ⟨b, 2, none⟩ = some (.int .i64 K) ∧ w'.cell? ⟨b, 3, none⟩ = some (.string ky) ∧ w'.cell? ⟨b, 4, none⟩ = some (.int .i64 ka) ∧ w'.cell? ⟨b, 5, none⟩ = some (.int .i64 na) ∧ w'.cell? ⟨b, 6, none⟩ = some (.string sa) ∧ w'.cell? ⟨b, 7, none⟩ = some (.int .i64 kb) ∧ w'.cell? ⟨b, 8, none⟩ = some (.int .i64 nb) ∧ w'.cell? ⟨b, 9, none⟩ = some (.string sb) ∧ Blk w' b (wrI dev seq K ky ka na sa kb nb sb) 47 ∧ Below b w w')
    (first | assumption | exact sW0 hC hB | exact sW1 (by assumption) (by assumption) (by assumption) (by decide))
    (first
      | (go_at_call 64; ((with_reducible refine (own_any A n c _ hc).mono ?_); rintro e w1 ⟨rfl, rfl⟩))
      | (go_at_call 63; ((with_reducible refine (HV.out _ (sWB (by assumption))).mono ?_); rintro e w2 ⟨⟨A2, n2, c2, rfl, hO2⟩, hb2, ho2⟩)))
  have hfin := sWB (w' := w2) (by assumption)
  go_wp2_with fail
  go_ret
  exact ⟨⟨A2, n2, c2, rfl, hO2.len, (by subst hb; exact hO2.rd), hO2.cap.1⟩, by rw [hb]; exact hfin⟩

set_option maxRecDepth 100000 in
set_option maxHeartbeats 4000000 in
theorem packWrites_any (A A2 : Option Addr) (n c m d : Nat) (l : List UInt8) (xs : List Wr) (w : World) (hl : l.length = n) (hn : n ≤ 100000) (hr : RdB w.heap.size w A l) (hc : n ≤ c) (hm : xs.length = m) (hm1 : m ≤ 1000) (hr2 : RdW w.heap.size w A2 xs) (hf : ∀ x, x ∈ xs → x.fits ∧ x.good = true) :
    Calls Tryz.prog 100 #[.slice A n c, .slice A2 m d] w fun e w' => PutR w (l ++ wsB xs) e w' := by
  have HN := Lib.hid hm
  have HR := Lib.hid (fun W hb => hr2.keep (W' := W) hb (Nat.le_refl _))
  have wn : IntKind.u64.wrap (m : Int) = (m : Int) := wrap_size (by omega)
  have hP := putNumber_any w.heap.size A n n l m w (pre_in hl (by omega) hr (Below.refl _ _)) (Nat.le_refl _) (by omega) (by omega)
  clear hm hr2 hr
  go_enter Tryz.func100, Tryz.ntmps100
  go_wp2_with fail
  refine (own_any A n c w hc).mono ?_
  rintro e w0 ⟨rfl, rfl⟩
  go_wp2_with fail
  refine hP.mono ?_
  rintro e w1 ⟨⟨A1, n1, c1, rfl, hO1⟩, hb1, -⟩
  have hn1 := put_len hO1 hl (numB_small (n := m) (by omega))
  go_wp2_with fail
  go_loopw [0, 15] (fun b i wr => ∃ (k : Nat) (A3 : Option Addr) (n3 c3 : Nat), k ≤ m ∧ i = .int .i64 k ∧ b = .slice A3 n3 c3 ∧ n3 ≤ 100009 + 5000000 * k ∧ OwnB w0.heap.size wr A3 n3 c3 (l ++ numB m ++ (xs.take k).flatMap wB) ∧ Below w0.heap.size w0 wr) (fun _ i _ => m - (intOf i).toNat)
  case atStart => exact ⟨0, A1, n1, c1, Nat.zero_le _, rfl, rfl, by omega, by simpa using hO1, hb1⟩
  case round =>
    clear hO1 hb1 hn1 hP
    obtain ⟨k, A3, n3, d3, hk, rfl, rfl, hn3, hO, hW⟩ := hrel
    by_cases hlt : k < m
    · obtain ⟨x, hx⟩ : ∃ x, xs[k]? = some x := ⟨_, List.getElem?_eq_getElem (show k < xs.length by have := HN.out; omega)⟩
      obtain ⟨ad, rfl, _, hcl⟩ := HR.out wr hW k x hx
      have i1 : (0 : Int) ≤ (k : Int) := by omega
      have i2 : (k : Int) < (m : Int) := by omega
      have HX := Lib.hid hx
      have hfx := hf x (List.mem_of_getElem? hx)
      have hsm := wB_small hfx.2 hfx.1
      have HF := Lib.hid hfx
      clear hx hfx
      obtain ⟨c0, c1, c2, c3, c4, c5, c6, c7, c8, c9⟩ := wr_cells hcl
      clear hcl
      have hE : l ++ numB m ++ (xs.take k).flatMap wB ++ wB x = l ++ numB m ++ (xs.take (k + 1)).flatMap wB := by
        rw [List.take_add_one, HX.out]
        simp
      have HE := Lib.hid hE
      clear hE
      have hO2 := hO.keep (b0 wr (.cells x.cells 47))
      have hl2 := hO.len
      have hW2 := hW.alloc hW.size (.cells x.cells 47)
      have hz := hW2.size
      go_wp2_with fail
      refine (putWrite_any w0.heap.size A3 n3 d3 _ x _ (.inl hO2) hz (by omega) HF.out.2 HF.out.1).mono ?_
      rintro e w2 ⟨⟨A4, n4, d4, rfl, hO4⟩, hb4, -⟩
      have hn4 := put_len hO4 hl2 hsm
      rw [HE.out] at hO4
      have hW4 := hW2.trans hb4
      go_wp2_with fail
      go_roundw
      case rel => exact ⟨k + 1, A4, n4, d4, by omega, by go_num, rfl, by rw [Nat.mul_succ, ← Nat.add_assoc]; exact Nat.le_trans hn4 (Nat.add_le_add_right hn3 _), hO4, hW4⟩
      case measure => simp [intOf]; omega
    · have hq : ¬ (k : Int) < (m : Int) := by omega
      have hE : l ++ numB m ++ (xs.take k).flatMap wB = l ++ wsB xs := by
        unfold wsB
        rw [HN.out, List.take_of_length_le (by have := HN.out; omega), List.append_assoc]
      rw [hE] at hO
      go_wp2_with fail
      go_ret
      exact ⟨⟨A3, n3, d3, rfl, hO.len, hO.rd, hO.cap.1⟩, hW⟩
end Go.Proofs.YtpjleeeligahaaaGreatDoor

namespace Go.Proofs.YtpjleeeligahaaaGreatDoor
open Go.RowKit

abbrev strC (x : ByteArray) : Array Value := #[.string x]
abbrev intC (x : Int) : Array Value := #[.int .i64 x]
abbrev clV (x : Cl) : Value := .agg x.cells
abbrev lnV (x : Ln) : Value := .agg x.cells
/-- A call's answer: a row of bytes of the call's own. -/
def PutX (base : Nat) (w : World) (L : List UInt8) (e : Ending) (w' : World) : Prop := (∃ (A : Option Addr) (n c : Nat), e = .returned (.slice A n c) ∧ OwnB base w' A n c L) ∧ Below base w w'
set_option maxRecDepth 100000 in
theorem packNumberO_any (A : Option Addr) (n c : Nat) (l : List UInt8) (x : Nat) (w : World) (hl : l.length = n) (hn : n ≤ 1000000) (hr : RdB w.heap.size w A l) (hc : n ≤ c) (hx : x < 18446744073709551616) :
    Calls Tryz.prog 62 #[.slice A n c, .int .u64 x] w fun e w' => PutX w.heap.size w (l ++ numB x) e w' := by
  go_enter Tryz.func62, Tryz.ntmps62
  go_wp2_with fail
  refine (own_any A n c w hc).mono ?_
  rintro e w1 ⟨rfl, rfl⟩
  go_wp2_with fail
  refine (putNumber_any w1.heap.size A n n l x w1 (preB_of hl hn hr) (Nat.le_refl _) (by omega) hx).mono ?_
  rintro e w2 ⟨⟨A2, n2, c2, rfl, hO2⟩, hb2, -⟩
  go_wp2_with fail
  go_ret
  exact ⟨⟨A2, n2, c2, rfl, hO2⟩, hb2⟩
/-- A function value that answers each of these as bytes. -/
def PutsF {α : Type} (g : Nat) (arg : α → Value) (E : α → List UInt8) (l : List α) : Prop := ∀ x, x ∈ l → ∀ W, Calls Tryz.prog g #[arg x] W fun e W' => PutR W (E x) e W'
theorem map_get {α β : Type} {f : α → β} {l : List α} {k : Nat} {x : α} (h : l[k]? = some x) : (l.map f)[k]? = some (f x) := by rw [List.getElem?_map, h]; rfl
theorem take_flat {α : Type} {E : α → List UInt8} {L : List UInt8} {l : List α} {k : Nat} {x : α} (h : l[k]? = some x) : L ++ (l.take k).flatMap E ++ E x = L ++ (l.take (k + 1)).flatMap E := by
  rw [List.take_add_one, h]
  simp
theorem PreB.own {base : Nat} {W : World} {A : Option Addr} {n c : Nat} {l : List UInt8} (h : OwnB base W A n c l) : PreB base W A n c l := .inl h

set_option maxRecDepth 100000 in
set_option maxHeartbeats 4000000 in
theorem putAllS_any (base g : Nat) (E : ByteArray → List UInt8) (eg : ∀ args w, (callFunc g args).run Tryz.prog w = .ok (.enter g args) w) (A A2 : Option Addr) (n c m d : Nat) (L : List UInt8) (l : List ByteArray) (w : World) (hp : PreB base w A n c L) (ho : OwnB base w A n c L ∨ 0 < m) (hb : base ≤ w.heap.size) (hn : n ≤ 1000009)
    (hm : l.length = m) (hm1 : m ≤ 100000) (hr : RdX 1 base w A2 (l.map strC)) (hE : ∀ x, x ∈ l → 0 < (E x).length ∧ (E x).length ≤ 5000000) (hg : PutsF g Value.string E l) :
    Calls Tryz.prog 107 #[.slice A n c, .slice A2 m d, .func (.func g) #[] #[]] w fun e w' => PutX base w (L ++ l.flatMap E) e w' := by
  obtain ⟨i0, hi0, hz0, hz1, hz2⟩ := info_parts byt_info
  have HN := Lib.hid hm
  have HR := Lib.hid (fun W (h : Below base w W) => hr.keep (W' := W) h (Nat.le_refl _))
  have HF := Lib.hid hg
  have HO := Lib.hid ho
  clear hm hr hg ho
  go_enter Tryz.func107, Tryz.ntmps107
  go_wp2_with fail
  go_loopw [0, 8, 11] (fun b _ i wr => ∃ (k : Nat) (A3 : Option Addr) (n3 c3 : Nat), k ≤ m ∧ i = .int .i64 k ∧ b = .slice A3 n3 c3 ∧ n3 ≤ 1000009 + 5000000 * k ∧ PreB base wr A3 n3 c3 (L ++ (l.take k).flatMap E) ∧ Hid (OwnB base w A n c L ∨ 0 < k → OwnB base wr A3 n3 c3 (L ++ (l.take k).flatMap E)) ∧ Below base w wr) (fun _ _ i _ => m - (intOf i).toNat)
  case atStart => exact ⟨0, A, n, c, Nat.zero_le _, rfl, rfl, by omega, by simpa using hp, fun h => by simpa using h.resolve_right (by omega), Below.refl _ _⟩
  case round =>
    clear hp
    obtain ⟨k, A3, n3, d3, hk, rfl, rfl, hn3, hP, hO, hW⟩ := hrel
    by_cases hlt : k < m
    · obtain ⟨x, hx⟩ : ∃ x, l[k]? = some x := ⟨_, List.getElem?_eq_getElem (show k < l.length by have := HN.out; omega)⟩
      obtain ⟨ad, rfl, _, hc⟩ := HR.out wr hW k _ (map_get hx)
      have i1 : (0 : Int) ≤ (k : Int) := by omega
      have i2 : (k : Int) < (m : Int) := by omega
      obtain ⟨e1, e2⟩ := hE x (List.mem_of_getElem? hx)
      have HG := Lib.hid (HF.out x (List.mem_of_getElem? hx))
      have HE := Lib.hid (take_flat (E := E) (L := L) hx)
      clear hx hO
      have q0 : wr.cell? (ad.add k) = some (.string x) := by have := hc 0 _ rfl; simpa using this
      clear hc
      have hP2 := hP
      have hW2 := hW
      have hz := hW2.size
      go_wp2_with first
        | (go_at_fn g; refine (HG.out _).mono ?_; rintro e w2 ⟨⟨A4, n4, c4, rfl, hl4, hr4, hc4⟩, hb4⟩)
        | (at_builtin; refine wpList_apP (base := base) (n := n3) (m := n4) (l := L ++ (l.take k).flatMap E) (l2 := E x) (by rfl) _ _ (by rfl) Tryz.underlying23 Tryz.underlying23 hi0 hz0 hz1 hz2 (by rfl) (by rfl) (hP2.keep hb4) hr4 hl4 (by omega) (n3 + n4) rfl (by omega) (Nat.le_trans (Nat.le_trans hb hz) hb4.size) ?_; intro A5 c5 w5 hO5 hb5 _)
      rw [HE.out] at hO5
      have hW5 := (hW2.trans (hb4.mono (Nat.le_trans hb hz))).trans hb5
      go_roundw
      case rel => exact ⟨k + 1, A5, n3 + n4, c5, by omega, by go_num, rfl, by omega, .inl hO5, fun _ => hO5, hW5⟩
      case measure => simp [intOf]; omega
    · have hq : ¬ (k : Int) < (m : Int) := by omega
      have hE2 : L ++ (l.take k).flatMap E = L ++ l.flatMap E := by rw [List.take_of_length_le (by have := HN.out; omega)]
      have hO2 := hO.out (HO.out.imp id fun h => by omega)
      rw [hE2] at hO2
      clear hP hO hE2
      go_wp2_with fail
      go_ret
      exact ⟨⟨A3, n3, d3, rfl, hO2⟩, hW⟩

set_option maxRecDepth 100000 in
set_option maxHeartbeats 2000000 in
theorem putListS_any (g : Nat) (E : ByteArray → List UInt8) (eg : ∀ args w, (callFunc g args).run Tryz.prog w = .ok (.enter g args) w) (A A2 : Option Addr) (n c m d : Nat) (L : List UInt8) (l : List ByteArray) (w : World) (hl : L.length = n) (hn : n ≤ 1000000) (hc : n ≤ c) (hr : RdB w.heap.size w A L)
    (hm : l.length = m) (hm1 : m ≤ 100000) (hr2 : RdX 1 w.heap.size w A2 (l.map strC)) (hE : ∀ x, x ∈ l → 0 < (E x).length ∧ (E x).length ≤ 5000000) (hg : PutsF g Value.string E l) :
    Calls Tryz.prog 53 #[.slice A n c, .slice A2 m d, .func (.func g) #[] #[]] w fun e w' => PutX w.heap.size w (L ++ (numB m ++ l.flatMap E)) e w' := by
  have wn : IntKind.u64.wrap (m : Int) = (m : Int) := wrap_size (by omega)
  have HN := Lib.hid hm
  have HL := Lib.hid hl
  go_enter Tryz.func53, Tryz.ntmps53
  go_wp2_with fail
  refine (packNumberO_any A n c L m w hl hn hr hc (by omega)).mono ?_
  rintro e w1 ⟨⟨A1, n1, c1, rfl, hO1⟩, hb1⟩
  have hn1 := put_len hO1 hl (numB_small (n := m) (by omega))
  go_wp2_with fail
  refine (putAllS_any w.heap.size g E eg A1 A2 n1 c1 m d (L ++ numB m) l w1 (.inl hO1) (.inl hO1) hb1.size (by omega) HN.out hm1 (hr2.keep hb1 (Nat.le_refl _)) hE hg).mono ?_
  rintro e w2 ⟨⟨A4, n4, c4, rfl, hO4⟩, hb4⟩
  rw [List.append_assoc] at hO4
  go_wp2_with fail
  go_ret
  exact ⟨⟨A4, n4, c4, rfl, hO4⟩, hb1.trans hb4⟩

set_option maxRecDepth 100000 in
set_option maxHeartbeats 4000000 in
theorem putAllI_any (base g : Nat) (E : Int → List UInt8) (eg : ∀ args w, (callFunc g args).run Tryz.prog w = .ok (.enter g args) w) (A A2 : Option Addr) (n c m d : Nat) (L : List UInt8) (l : List Int) (w : World) (hp : PreB base w A n c L) (ho : OwnB base w A n c L ∨ 0 < m) (hb : base ≤ w.heap.size) (hn : n ≤ 1000009)
    (hm : l.length = m) (hm1 : m ≤ 100000) (hr : RdX 1 base w A2 (l.map intC)) (hE : ∀ x, x ∈ l → 0 < (E x).length ∧ (E x).length ≤ 5000000) (hg : PutsF g (Value.int .i64) E l) :
    Calls Tryz.prog 143 #[.slice A n c, .slice A2 m d, .func (.func g) #[] #[]] w fun e w' => PutX base w (L ++ l.flatMap E) e w' := by
  obtain ⟨i0, hi0, hz0, hz1, hz2⟩ := info_parts byt_info
  have HN := Lib.hid hm
  have HR := Lib.hid (fun W (h : Below base w W) => hr.keep (W' := W) h (Nat.le_refl _))
  have HF := Lib.hid hg
  have HO := Lib.hid ho
  clear hm hr hg ho
  go_enter Tryz.func143, Tryz.ntmps143
  go_wp2_with fail
  go_loopw [0, 8, 11] (fun b _ i wr => ∃ (k : Nat) (A3 : Option Addr) (n3 c3 : Nat), k ≤ m ∧ i = .int .i64 k ∧ b = .slice A3 n3 c3 ∧ n3 ≤ 1000009 + 5000000 * k ∧ PreB base wr A3 n3 c3 (L ++ (l.take k).flatMap E) ∧ Hid (OwnB base w A n c L ∨ 0 < k → OwnB base wr A3 n3 c3 (L ++ (l.take k).flatMap E)) ∧ Below base w wr) (fun _ _ i _ => m - (intOf i).toNat)
  case atStart => exact ⟨0, A, n, c, Nat.zero_le _, rfl, rfl, by omega, by simpa using hp, fun h => by simpa using h.resolve_right (by omega), Below.refl _ _⟩
  case round =>
    clear hp
    obtain ⟨k, A3, n3, d3, hk, rfl, rfl, hn3, hP, hO, hW⟩ := hrel
    by_cases hlt : k < m
    · obtain ⟨x, hx⟩ : ∃ x, l[k]? = some x := ⟨_, List.getElem?_eq_getElem (show k < l.length by have := HN.out; omega)⟩
      obtain ⟨ad, rfl, _, hc⟩ := HR.out wr hW k _ (map_get hx)
      have i1 : (0 : Int) ≤ (k : Int) := by omega
      have i2 : (k : Int) < (m : Int) := by omega
      obtain ⟨e1, e2⟩ := hE x (List.mem_of_getElem? hx)
      have HG := Lib.hid (HF.out x (List.mem_of_getElem? hx))
      have HE := Lib.hid (take_flat (E := E) (L := L) hx)
      clear hx hO
      have q0 : wr.cell? (ad.add k) = some (.int .i64 x) := by have := hc 0 _ rfl; simpa using this
      clear hc
      have hP2 := hP
      have hW2 := hW
      have hz := hW2.size
      go_wp2_with first
        | (go_at_fn g; refine (HG.out _).mono ?_; rintro e w2 ⟨⟨A4, n4, c4, rfl, hl4, hr4, hc4⟩, hb4⟩)
        | (at_builtin; refine wpList_apP (base := base) (n := n3) (m := n4) (l := L ++ (l.take k).flatMap E) (l2 := E x) (by rfl) _ _ (by rfl) Tryz.underlying23 Tryz.underlying23 hi0 hz0 hz1 hz2 (by rfl) (by rfl) (hP2.keep hb4) hr4 hl4 (by omega) (n3 + n4) rfl (by omega) (Nat.le_trans (Nat.le_trans hb hz) hb4.size) ?_; intro A5 c5 w5 hO5 hb5 _)
      rw [HE.out] at hO5
      have hW5 := (hW2.trans (hb4.mono (Nat.le_trans hb hz))).trans hb5
      go_roundw
      case rel => exact ⟨k + 1, A5, n3 + n4, c5, by omega, by go_num, rfl, by omega, .inl hO5, fun _ => hO5, hW5⟩
      case measure => simp [intOf]; omega
    · have hq : ¬ (k : Int) < (m : Int) := by omega
      have hE2 : L ++ (l.take k).flatMap E = L ++ l.flatMap E := by rw [List.take_of_length_le (by have := HN.out; omega)]
      have hO2 := hO.out (HO.out.imp id fun h => by omega)
      rw [hE2] at hO2
      clear hP hO hE2
      go_wp2_with fail
      go_ret
      exact ⟨⟨A3, n3, d3, rfl, hO2⟩, hW⟩

set_option maxRecDepth 100000 in
set_option maxHeartbeats 4000000 in
theorem putAllC_any (base g : Nat) (E : Cl → List UInt8) (eg : ∀ args w, (callFunc g args).run Tryz.prog w = .ok (.enter g args) w) (A A2 : Option Addr) (n c m d : Nat) (L : List UInt8) (l : List Cl) (w : World) (hp : PreB base w A n c L) (ho : OwnB base w A n c L ∨ 0 < m) (hb : base ≤ w.heap.size) (hn : n ≤ 1000009)
    (hm : l.length = m) (hm1 : m ≤ 100000) (hr : RdX 4 base w A2 (l.map Cl.cells)) (hE : ∀ x, x ∈ l → 0 < (E x).length ∧ (E x).length ≤ 5000000) (hg : PutsF g clV E l) :
    Calls Tryz.prog 109 #[.slice A n c, .slice A2 m d, .func (.func g) #[] #[]] w fun e w' => PutX base w (L ++ l.flatMap E) e w' := by
  obtain ⟨i0, hi0, hz0, hz1, hz2⟩ := info_parts byt_info
  have HN := Lib.hid hm
  have HR := Lib.hid (fun W (h : Below base w W) => hr.keep (W' := W) h (Nat.le_refl _))
  have HF := Lib.hid hg
  have HO := Lib.hid ho
  clear hm hr hg ho
  go_enter Tryz.func109, Tryz.ntmps109
  go_wp2_with fail
  go_loopw [0, 11] (fun b i wr => ∃ (k : Nat) (A3 : Option Addr) (n3 c3 : Nat), k ≤ m ∧ i = .int .i64 k ∧ b = .slice A3 n3 c3 ∧ n3 ≤ 1000009 + 5000000 * k ∧ PreB base wr A3 n3 c3 (L ++ (l.take k).flatMap E) ∧ Hid (OwnB base w A n c L ∨ 0 < k → OwnB base wr A3 n3 c3 (L ++ (l.take k).flatMap E)) ∧ Below base w wr) (fun _ i _ => m - (intOf i).toNat)
  case atStart => exact ⟨0, A, n, c, Nat.zero_le _, rfl, rfl, by omega, by simpa using hp, fun h => by simpa using h.resolve_right (by omega), Below.refl _ _⟩
  case round =>
    clear hp
    obtain ⟨k, A3, n3, d3, hk, rfl, rfl, hn3, hP, hO, hW⟩ := hrel
    by_cases hlt : k < m
    · obtain ⟨x, hx⟩ : ∃ x, l[k]? = some x := ⟨_, List.getElem?_eq_getElem (show k < l.length by have := HN.out; omega)⟩
      obtain ⟨ad, rfl, _, hc⟩ := HR.out wr hW k _ (map_get hx)
      have i1 : (0 : Int) ≤ (k : Int) := by omega
      have i2 : (k : Int) < (m : Int) := by omega
      obtain ⟨e1, e2⟩ := hE x (List.mem_of_getElem? hx)
      have HG := Lib.hid (HF.out x (List.mem_of_getElem? hx))
      have HE := Lib.hid (take_flat (E := E) (L := L) hx)
      clear hx hO
      have q0 : wr.cell? (ad.add (k * 4)) = some (.string x.ky) := (celX hc).1 _ rfl
      have q1 : wr.cell? ⟨(ad.add (k * 4)).block, (ad.add (k * 4)).off + 1, none⟩ = some (.int .i64 x.k) := (celX hc).2 0 _ rfl
      have q2 : wr.cell? ⟨(ad.add (k * 4)).block, (ad.add (k * 4)).off + 2, none⟩ = some (.int .i64 x.x) := (celX hc).2 1 _ rfl
      have q3 : wr.cell? ⟨(ad.add (k * 4)).block, (ad.add (k * 4)).off + 3, none⟩ = some (.string x.s) := (celX hc).2 2 _ rfl
      clear hc
      have hP2 := hP.keep (b0 wr (.cells x.cells 61))
      have hW2 := hW.alloc (Nat.le_trans hb hW.size) (.cells x.cells 61)
      have hz := hW2.size
      go_wp2_with first
        | (go_at_fn g; refine (HG.out _).mono ?_; rintro e w2 ⟨⟨A4, n4, c4, rfl, hl4, hr4, hc4⟩, hb4⟩)
        | (at_builtin; refine wpList_apP (base := base) (n := n3) (m := n4) (l := L ++ (l.take k).flatMap E) (l2 := E x) (by rfl) _ _ (by rfl) Tryz.underlying23 Tryz.underlying23 hi0 hz0 hz1 hz2 (by rfl) (by rfl) (hP2.keep hb4) hr4 hl4 (by omega) (n3 + n4) rfl (by omega) (Nat.le_trans (Nat.le_trans hb hz) hb4.size) ?_; intro A5 c5 w5 hO5 hb5 _)
      rw [HE.out] at hO5
      have hW5 := (hW2.trans (hb4.mono (Nat.le_trans hb hz))).trans hb5
      go_roundw
      case rel => exact ⟨k + 1, A5, n3 + n4, c5, by omega, by go_num, rfl, by omega, .inl hO5, fun _ => hO5, hW5⟩
      case measure => simp [intOf]; omega
    · have hq : ¬ (k : Int) < (m : Int) := by omega
      have hE2 : L ++ (l.take k).flatMap E = L ++ l.flatMap E := by rw [List.take_of_length_le (by have := HN.out; omega)]
      have hO2 := hO.out (HO.out.imp id fun h => by omega)
      rw [hE2] at hO2
      clear hP hO hE2
      go_wp2_with fail
      go_ret
      exact ⟨⟨A3, n3, d3, rfl, hO2⟩, hW⟩

set_option maxRecDepth 100000 in
set_option maxHeartbeats 2000000 in
theorem putListC_any (g : Nat) (E : Cl → List UInt8) (eg : ∀ args w, (callFunc g args).run Tryz.prog w = .ok (.enter g args) w) (A A2 : Option Addr) (n c m d : Nat) (L : List UInt8) (l : List Cl) (w : World) (hl : L.length = n) (hn : n ≤ 1000000) (hc : n ≤ c) (hr : RdB w.heap.size w A L)
    (hm : l.length = m) (hm1 : m ≤ 100000) (hr2 : RdX 4 w.heap.size w A2 (l.map Cl.cells)) (hE : ∀ x, x ∈ l → 0 < (E x).length ∧ (E x).length ≤ 5000000) (hg : PutsF g clV E l) :
    Calls Tryz.prog 56 #[.slice A n c, .slice A2 m d, .func (.func g) #[] #[]] w fun e w' => PutX w.heap.size w (L ++ (numB m ++ l.flatMap E)) e w' := by
  have wn : IntKind.u64.wrap (m : Int) = (m : Int) := wrap_size (by omega)
  have HN := Lib.hid hm
  have HL := Lib.hid hl
  go_enter Tryz.func56, Tryz.ntmps56
  go_wp2_with fail
  refine (packNumberO_any A n c L m w hl hn hr hc (by omega)).mono ?_
  rintro e w1 ⟨⟨A1, n1, c1, rfl, hO1⟩, hb1⟩
  have hn1 := put_len hO1 hl (numB_small (n := m) (by omega))
  go_wp2_with fail
  refine (putAllC_any w.heap.size g E eg A1 A2 n1 c1 m d (L ++ numB m) l w1 (.inl hO1) (.inl hO1) hb1.size (by omega) HN.out hm1 (hr2.keep hb1 (Nat.le_refl _)) hE hg).mono ?_
  rintro e w2 ⟨⟨A4, n4, c4, rfl, hO4⟩, hb4⟩
  rw [List.append_assoc] at hO4
  go_wp2_with fail
  go_ret
  exact ⟨⟨A4, n4, c4, rfl, hO4⟩, hb1.trans hb4⟩

set_option maxRecDepth 100000 in
set_option maxHeartbeats 4000000 in
theorem putAllL_any (base g : Nat) (E : Ln → List UInt8) (eg : ∀ args w, (callFunc g args).run Tryz.prog w = .ok (.enter g args) w) (A A2 : Option Addr) (n c m d : Nat) (L : List UInt8) (l : List Ln) (w : World) (hp : PreB base w A n c L) (ho : OwnB base w A n c L ∨ 0 < m) (hb : base ≤ w.heap.size) (hn : n ≤ 1000009)
    (hm : l.length = m) (hm1 : m ≤ 100000) (hr : RdX 11 base w A2 (l.map Ln.cells)) (hE : ∀ x, x ∈ l → 0 < (E x).length ∧ (E x).length ≤ 5000000) (hg : PutsF g lnV E l) :
    Calls Tryz.prog 61 #[.slice A n c, .slice A2 m d, .func (.func g) #[] #[]] w fun e w' => PutX base w (L ++ l.flatMap E) e w' := by
  obtain ⟨i0, hi0, hz0, hz1, hz2⟩ := info_parts byt_info
  have HN := Lib.hid hm
  have HR := Lib.hid (fun W (h : Below base w W) => hr.keep (W' := W) h (Nat.le_refl _))
  have HF := Lib.hid hg
  have HO := Lib.hid ho
  clear hm hr hg ho
  go_enter Tryz.func61, Tryz.ntmps61
  go_wp2_with fail
  go_loopw [0, 11] (fun b i wr => ∃ (k : Nat) (A3 : Option Addr) (n3 c3 : Nat), k ≤ m ∧ i = .int .i64 k ∧ b = .slice A3 n3 c3 ∧ n3 ≤ 1000009 + 5000000 * k ∧ PreB base wr A3 n3 c3 (L ++ (l.take k).flatMap E) ∧ Hid (OwnB base w A n c L ∨ 0 < k → OwnB base wr A3 n3 c3 (L ++ (l.take k).flatMap E)) ∧ Below base w wr) (fun _ i _ => m - (intOf i).toNat)
  case atStart => exact ⟨0, A, n, c, Nat.zero_le _, rfl, rfl, by omega, by simpa using hp, fun h => by simpa using h.resolve_right (by omega), Below.refl _ _⟩
  case round =>
    clear hp
    obtain ⟨k, A3, n3, d3, hk, rfl, rfl, hn3, hP, hO, hW⟩ := hrel
    by_cases hlt : k < m
    · obtain ⟨x, hx⟩ : ∃ x, l[k]? = some x := ⟨_, List.getElem?_eq_getElem (show k < l.length by have := HN.out; omega)⟩
      obtain ⟨ad, rfl, _, hc⟩ := HR.out wr hW k _ (map_get hx)
      have i1 : (0 : Int) ≤ (k : Int) := by omega
      have i2 : (k : Int) < (m : Int) := by omega
      obtain ⟨e1, e2⟩ := hE x (List.mem_of_getElem? hx)
      have HG := Lib.hid (HF.out x (List.mem_of_getElem? hx))
      have HE := Lib.hid (take_flat (E := E) (L := L) hx)
      clear hx hO
      have q0 : wr.cell? (ad.add (k * 11)) = some (.int .i64 x.pl) := (celX hc).1 _ rfl
      have q1 : wr.cell? ⟨(ad.add (k * 11)).block, (ad.add (k * 11)).off + 1, none⟩ = some (.int .i64 x.w.dev) := (celX hc).2 0 _ rfl
      have q2 : wr.cell? ⟨(ad.add (k * 11)).block, (ad.add (k * 11)).off + 2, none⟩ = some (.int .i64 x.w.seq) := (celX hc).2 1 _ rfl
      have q3 : wr.cell? ⟨(ad.add (k * 11)).block, (ad.add (k * 11)).off + 3, none⟩ = some (.int .i64 x.w.K) := (celX hc).2 2 _ rfl
      have q4 : wr.cell? ⟨(ad.add (k * 11)).block, (ad.add (k * 11)).off + 4, none⟩ = some (.string x.w.ky) := (celX hc).2 3 _ rfl
      have q5 : wr.cell? ⟨(ad.add (k * 11)).block, (ad.add (k * 11)).off + 5, none⟩ = some (.int .i64 x.w.ka) := (celX hc).2 4 _ rfl
      have q6 : wr.cell? ⟨(ad.add (k * 11)).block, (ad.add (k * 11)).off + 6, none⟩ = some (.int .i64 x.w.na) := (celX hc).2 5 _ rfl
      have q7 : wr.cell? ⟨(ad.add (k * 11)).block, (ad.add (k * 11)).off + 7, none⟩ = some (.string x.w.sa) := (celX hc).2 6 _ rfl
      have q8 : wr.cell? ⟨(ad.add (k * 11)).block, (ad.add (k * 11)).off + 8, none⟩ = some (.int .i64 x.w.kb) := (celX hc).2 7 _ rfl
      have q9 : wr.cell? ⟨(ad.add (k * 11)).block, (ad.add (k * 11)).off + 9, none⟩ = some (.int .i64 x.w.nb) := (celX hc).2 8 _ rfl
      have q10 : wr.cell? ⟨(ad.add (k * 11)).block, (ad.add (k * 11)).off + 10, none⟩ = some (.string x.w.sb) := (celX hc).2 9 _ rfl
      clear hc
      have hP2 := hP.keep (b0 wr (.cells x.cells 49))
      have hW2 := hW.alloc (Nat.le_trans hb hW.size) (.cells x.cells 49)
      have hz := hW2.size
      go_wp2_with first
        | (go_at_fn g; refine (HG.out _).mono ?_; rintro e w2 ⟨⟨A4, n4, c4, rfl, hl4, hr4, hc4⟩, hb4⟩)
        | (at_builtin; refine wpList_apP (base := base) (n := n3) (m := n4) (l := L ++ (l.take k).flatMap E) (l2 := E x) (by rfl) _ _ (by rfl) Tryz.underlying23 Tryz.underlying23 hi0 hz0 hz1 hz2 (by rfl) (by rfl) (hP2.keep hb4) hr4 hl4 (by omega) (n3 + n4) rfl (by omega) (Nat.le_trans (Nat.le_trans hb hz) hb4.size) ?_; intro A5 c5 w5 hO5 hb5 _)
      rw [HE.out] at hO5
      have hW5 := (hW2.trans (hb4.mono (Nat.le_trans hb hz))).trans hb5
      go_roundw
      case rel => exact ⟨k + 1, A5, n3 + n4, c5, by omega, by go_num, rfl, by omega, .inl hO5, fun _ => hO5, hW5⟩
      case measure => simp [intOf]; omega
    · have hq : ¬ (k : Int) < (m : Int) := by omega
      have hE2 : L ++ (l.take k).flatMap E = L ++ l.flatMap E := by rw [List.take_of_length_le (by have := HN.out; omega)]
      have hO2 := hO.out (HO.out.imp id fun h => by omega)
      rw [hE2] at hO2
      clear hP hO hE2
      go_wp2_with fail
      go_ret
      exact ⟨⟨A3, n3, d3, rfl, hO2⟩, hW⟩

set_option maxRecDepth 100000 in
set_option maxHeartbeats 2000000 in
theorem putListL_any (g : Nat) (E : Ln → List UInt8) (eg : ∀ args w, (callFunc g args).run Tryz.prog w = .ok (.enter g args) w) (A A2 : Option Addr) (n c m d : Nat) (L : List UInt8) (l : List Ln) (w : World) (hl : L.length = n) (hn : n ≤ 1000000) (hc : n ≤ c) (hr : RdB w.heap.size w A L)
    (hm : l.length = m) (hm1 : m ≤ 100000) (hr2 : RdX 11 w.heap.size w A2 (l.map Ln.cells)) (hE : ∀ x, x ∈ l → 0 < (E x).length ∧ (E x).length ≤ 5000000) (hg : PutsF g lnV E l) :
    Calls Tryz.prog 26 #[.slice A n c, .slice A2 m d, .func (.func g) #[] #[]] w fun e w' => PutX w.heap.size w (L ++ (numB m ++ l.flatMap E)) e w' := by
  have wn : IntKind.u64.wrap (m : Int) = (m : Int) := wrap_size (by omega)
  have HN := Lib.hid hm
  have HL := Lib.hid hl
  go_enter Tryz.func26, Tryz.ntmps26
  go_wp2_with fail
  refine (packNumberO_any A n c L m w hl hn hr hc (by omega)).mono ?_
  rintro e w1 ⟨⟨A1, n1, c1, rfl, hO1⟩, hb1⟩
  have hn1 := put_len hO1 hl (numB_small (n := m) (by omega))
  go_wp2_with fail
  refine (putAllL_any w.heap.size g E eg A1 A2 n1 c1 m d (L ++ numB m) l w1 (.inl hO1) (.inl hO1) hb1.size (by omega) HN.out hm1 (hr2.keep hb1 (Nat.le_refl _)) hE hg).mono ?_
  rintro e w2 ⟨⟨A4, n4, c4, rfl, hO4⟩, hb4⟩
  rw [List.append_assoc] at hO4
  go_wp2_with fail
  go_ret
  exact ⟨⟨A4, n4, c4, rfl, hO4⟩, hb1.trans hb4⟩
end Go.Proofs.YtpjleeeligahaaaGreatDoor

namespace Go.Proofs.YtpjleeeligahaaaGreatDoor
open Go.RowKit

section
variable {W w0 w' w1 : World} {b : Nat} {v0 v1 v2 v3 : Value} {t : TypeId}
theorem sb4_0 (h : Blk W b #[v0, v1, v2, v3] t) (hB : Below b w0 W) : W.drew.cell? ⟨b, 0, none⟩ = some v0 ∧ W.drew.cell? ⟨b, 1, none⟩ = some v1 ∧ W.drew.cell? ⟨b, 2, none⟩ = some v2 ∧ W.drew.cell? ⟨b, 3, none⟩ = some v3 ∧ Blk W.drew b #[v0, v1, v2, v3] t ∧ Below b w0 W.drew :=
  ⟨h.cell 0, h.cell 1, h.cell 2, h.cell 3, h, hB.drew⟩
theorem sb4_1 (h : w'.cell? ⟨b, 0, none⟩ = some v0 ∧ w'.cell? ⟨b, 1, none⟩ = some v1 ∧ w'.cell? ⟨b, 2, none⟩ = some v2 ∧ w'.cell? ⟨b, 3, none⟩ = some v3 ∧ Blk w' b #[v0, v1, v2, v3] t ∧ Below b w0 w') (hb : Below w'.heap.size w' w1) : w1.cell? ⟨b, 0, none⟩ = some v0 ∧ w1.cell? ⟨b, 1, none⟩ = some v1 ∧ w1.cell? ⟨b, 2, none⟩ = some v2 ∧ w1.cell? ⟨b, 3, none⟩ = some v3 ∧ Blk w1 b #[v0, v1, v2, v3] t ∧ Below b w0 w1 := by
  have k := Blk.keep h.2.2.2.2.1 hb
  exact ⟨k.cell 0, k.cell 1, k.cell 2, k.cell 3, k, h.2.2.2.2.2.trans (hb.mono (Nat.le_of_lt (Blk.lt h.2.2.2.2.1)))⟩
theorem sb4_b (h : w'.cell? ⟨b, 0, none⟩ = some v0 ∧ w'.cell? ⟨b, 1, none⟩ = some v1 ∧ w'.cell? ⟨b, 2, none⟩ = some v2 ∧ w'.cell? ⟨b, 3, none⟩ = some v3 ∧ Blk w' b #[v0, v1, v2, v3] t ∧ Below b w0 w') : Below b w0 w' := h.2.2.2.2.2
end

section
variable {W w0 w' w1 : World} {b : Nat} {v0 v1 v2 v3 v4 v5 v6 v7 v8 v9 v10 : Value} {t : TypeId}
theorem sb11_0 (h : Blk W b #[v0, v1, v2, v3, v4, v5, v6, v7, v8, v9, v10] t) (hB : Below b w0 W) : W.drew.cell? ⟨b, 0, none⟩ = some v0 ∧ W.drew.cell? ⟨b, 1, none⟩ = some v1 ∧ W.drew.cell? ⟨b, 2, none⟩ = some v2 ∧ W.drew.cell? ⟨b, 3, none⟩ = some v3 ∧ W.drew.cell? ⟨b, 4, none⟩ = some v4 ∧ W.drew.cell? ⟨b, 5, none⟩ = some v5 ∧ W.drew.cell? ⟨b, 6, none⟩ = some v6 ∧ W.drew.cell? ⟨b, 7, none⟩ = some v7 ∧ W.drew.cell? ⟨b, 8, none⟩ = some v8 ∧ W.drew.cell? ⟨b, 9, none⟩ = some v9 ∧ W.drew.cell? ⟨b, 10, none⟩ = some v10 ∧ Blk W.drew b #[v0, v1, v2, v3, v4, v5, v6, v7, v8, v9, v10] t ∧ Below b w0 W.drew :=
  ⟨h.cell 0, h.cell 1, h.cell 2, h.cell 3, h.cell 4, h.cell 5, h.cell 6, h.cell 7, h.cell 8, h.cell 9, h.cell 10, h, hB.drew⟩
theorem sb11_1 (h : w'.cell? ⟨b, 0, none⟩ = some v0 ∧ w'.cell? ⟨b, 1, none⟩ = some v1 ∧ w'.cell? ⟨b, 2, none⟩ = some v2 ∧ w'.cell? ⟨b, 3, none⟩ = some v3 ∧ w'.cell? ⟨b, 4, none⟩ = some v4 ∧ w'.cell? ⟨b, 5, none⟩ = some v5 ∧ w'.cell? ⟨b, 6, none⟩ = some v6 ∧ w'.cell? ⟨b, 7, none⟩ = some v7 ∧ w'.cell? ⟨b, 8, none⟩ = some v8 ∧ w'.cell? ⟨b, 9, none⟩ = some v9 ∧ w'.cell? ⟨b, 10, none⟩ = some v10 ∧ Blk w' b #[v0, v1, v2, v3, v4, v5, v6, v7, v8, v9, v10] t ∧ Below b w0 w') (hb : Below w'.heap.size w' w1) : w1.cell? ⟨b, 0, none⟩ = some v0 ∧ w1.cell? ⟨b, 1, none⟩ = some v1 ∧ w1.cell? ⟨b, 2, none⟩ = some v2 ∧ w1.cell? ⟨b, 3, none⟩ = some v3 ∧ w1.cell? ⟨b, 4, none⟩ = some v4 ∧ w1.cell? ⟨b, 5, none⟩ = some v5 ∧ w1.cell? ⟨b, 6, none⟩ = some v6 ∧ w1.cell? ⟨b, 7, none⟩ = some v7 ∧ w1.cell? ⟨b, 8, none⟩ = some v8 ∧ w1.cell? ⟨b, 9, none⟩ = some v9 ∧ w1.cell? ⟨b, 10, none⟩ = some v10 ∧ Blk w1 b #[v0, v1, v2, v3, v4, v5, v6, v7, v8, v9, v10] t ∧ Below b w0 w1 := by
  have k := Blk.keep h.2.2.2.2.2.2.2.2.2.2.2.1 hb
  exact ⟨k.cell 0, k.cell 1, k.cell 2, k.cell 3, k.cell 4, k.cell 5, k.cell 6, k.cell 7, k.cell 8, k.cell 9, k.cell 10, k, h.2.2.2.2.2.2.2.2.2.2.2.2.trans (hb.mono (Nat.le_of_lt (Blk.lt h.2.2.2.2.2.2.2.2.2.2.2.1)))⟩
theorem sb11_b (h : w'.cell? ⟨b, 0, none⟩ = some v0 ∧ w'.cell? ⟨b, 1, none⟩ = some v1 ∧ w'.cell? ⟨b, 2, none⟩ = some v2 ∧ w'.cell? ⟨b, 3, none⟩ = some v3 ∧ w'.cell? ⟨b, 4, none⟩ = some v4 ∧ w'.cell? ⟨b, 5, none⟩ = some v5 ∧ w'.cell? ⟨b, 6, none⟩ = some v6 ∧ w'.cell? ⟨b, 7, none⟩ = some v7 ∧ w'.cell? ⟨b, 8, none⟩ = some v8 ∧ w'.cell? ⟨b, 9, none⟩ = some v9 ∧ w'.cell? ⟨b, 10, none⟩ = some v10 ∧ Blk w' b #[v0, v1, v2, v3, v4, v5, v6, v7, v8, v9, v10] t ∧ Below b w0 w') : Below b w0 w' := h.2.2.2.2.2.2.2.2.2.2.2.2
end

theorem enters_putR : ∀ args w, (callFunc 54 args).run Tryz.prog w = .ok (.enter 54 args) w := enters_of Tryz.func54 (by kernel_rfl) rfl
theorem enters_putC : ∀ args w, (callFunc 57 args).run Tryz.prog w = .ok (.enter 57 args) w := enters_of Tryz.func57 (by kernel_rfl) rfl
theorem enters_putL : ∀ args w, (callFunc 27 args).run Tryz.prog w = .ok (.enter 27 args) w := enters_of Tryz.func27 (by kernel_rfl) rfl
theorem enters_num : ∀ args w, (callFunc 29 args).run Tryz.prog w = .ok (.enter 29 args) w := enters_of Tryz.func29 (by kernel_rfl) rfl

set_option maxRecDepth 100000 in
theorem putR1_any (s : ByteArray) (w : World) (hs : s.size ≤ 100000) :
    Calls Tryz.prog 54 #[.string s] w fun e w' => PutR w (textB s.data.toList) e w' := by
  go_enter Tryz.func54, Tryz.ntmps54
  go_wp2_with fail
  refine (packText_any none 0 0 [] s w rfl (by omega) (RdB.nil _ _ _) (Nat.le_refl _) hs).mono ?_
  rintro e w1 ⟨⟨A1, n1, c1, rfl, hl1, hr1, hc1⟩, hb1⟩
  go_wp2_with fail
  go_ret
  exact ⟨⟨A1, n1, c1, rfl, hl1, hr1, hc1⟩, hb1⟩
set_option maxRecDepth 100000 in
theorem number_any (x : Int) (w : World) (h0 : 0 ≤ x) (h1 : x ≤ 1000000) :
    Calls Tryz.prog 29 #[.int .i64 x] w fun e w' => PutR w (numB x.toNat) e w' := by
  obtain ⟨n, rfl⟩ : ∃ n : Nat, x = (n : Int) := ⟨x.toNat, by omega⟩
  have wn : IntKind.u64.wrap (n : Int) = (n : Int) := wrap_size (by omega)
  go_enter Tryz.func29, Tryz.ntmps29
  go_wp2_with fail
  refine (packNumber_any none 0 0 [] n w rfl (by omega) (RdB.nil _ _ _) (Nat.le_refl _) (by omega)).mono ?_
  rintro e w1 ⟨⟨A1, n1, c1, rfl, hl1, hr1, hc1⟩, hb1⟩
  go_wp2_with fail
  go_ret
  exact ⟨⟨A1, n1, c1, rfl, hl1, hr1, hc1⟩, hb1⟩

set_option maxRecDepth 100000 in
set_option maxHeartbeats 4000000 in
theorem putC1_any (c : Cl) (w : World) (hg : c.good = true) (hf : c.fits) :
    Calls Tryz.prog 57 #[clV c] w fun e w' => PutR w (clB c) e w' := by
  obtain ⟨h1, h2, h3, h4, h5⟩ := cl_in hg
  have HT := Lib.hid (fun W => (packText_any none 0 0 [] c.ky W rfl (by omega) (RdB.nil _ _ _) (Nat.le_refl _) (by omega)).mono fun e w' h => (show PutR W (textB c.ky.data.toList) e w' from h))
  have HV := Lib.hid (fun W A n d (hl : (textB c.ky.data.toList).length = n) (hn : n ≤ 100000) (hr : RdB W.heap.size W A (textB c.ky.data.toList)) (hc : n ≤ d) => packValue_any A n d (textB c.ky.data.toList) c.k c.x c.s W hl hn hr hc h5 hf.2.2.1 hf.2.2.2)
  have hts : (textB c.ky.data.toList).length ≤ 1000009 := textB_small (by omega)
  have hts2 : (textB c.ky.data.toList).length ≤ 100000 := by
    have e : c.ky.data.toList.length = c.ky.size := Array.length_toList
    have := numB_small (n := c.ky.data.toList.length) (by omega)
    unfold textB
    rw [List.length_append]
    omega
  clear h1 h2 h3 h4 h5 hg hf hts
  unfold clB
  obtain ⟨ky, k, x, s⟩ := c
  dsimp only at HT HV hts2 ⊢
  go_enter Tryz.func57, Tryz.ntmps57
  go_wp2_with fail
  have hC := blk_new w (clI ky k x s) 61
  have hB := b0 w (.cells (clI ky k x s) 61)
  generalize w.alloc (.cells (clI ky k x s) 61) = W at hC hB ⊢
  generalize hb : w.heap.size = b at hC hB ⊢
  go_region_held3 (fun w' => w'.cell? ⟨b, 0, none⟩ = some (.string ky) ∧ w'.cell? ⟨b, 1, none⟩ = some (.int .i64 k) ∧ w'.cell? ⟨b, 2, none⟩ = some (.int .i64 x) ∧ w'.cell? ⟨b, 3, none⟩ = some (.string s) ∧ Blk w' b #[.string ky, .int .i64 k, .int .i64 x, .string s] 61 ∧ Below b w w')
    (first | assumption | exact sb4_0 hC hB | exact sb4_1 (by assumption) (by assumption))
    (first
      | (go_at_call 55; ((with_reducible refine (HT.out _).mono ?_); rintro e w1 ⟨⟨A1, n1, c1, rfl, hl1, hr1, hc1⟩, hb1⟩))
      | (go_at_call 58; ((with_reducible refine (HV.out _ A1 n1 c1 hl1 (by rw [← hl1]; exact hts2) hr1 hc1).mono ?_); rintro e w2 ⟨⟨A2, n2, c2, rfl, hl2, hr2, hc2⟩, hb2⟩)))
  have hfin := sb4_b (w' := w2) (by assumption)
  go_wp2_with fail
  go_ret
  exact ⟨⟨A2, n2, c2, rfl, hl2, hr2, hc2⟩, by rw [hb]; exact hfin⟩

set_option maxRecDepth 100000 in
set_option maxHeartbeats 4000000 in
theorem putL1_any (c : Ln) (w : World) (hg : c.good = true) (hf : c.fits) :
    Calls Tryz.prog 27 #[lnV c] w fun e w' => PutR w (lnB c) e w' := by
  obtain ⟨h1, h2⟩ := ln_in hg
  have HT := Lib.hid (fun W => number_any c.pl W (by omega) (by omega))
  have HV := Lib.hid (fun W A n d (hl : (numB c.pl.toNat).length = n) (hn : n ≤ 100000) (hr : RdB W.heap.size W A (numB c.pl.toNat)) (hc : n ≤ d) => packWrite_any A n d (numB c.pl.toNat) c.w W hl hn hr hc h2 hf)
  have hts2 : (numB c.pl.toNat).length ≤ 100000 := Nat.le_trans (numB_small (by omega)) (by omega)
  clear h1 h2 hg hf
  unfold lnB
  obtain ⟨pl, dev, seq, K, ky, ka, na, sa, kb, nb, sb⟩ := c
  dsimp only at HT HV hts2 ⊢
  go_enter Tryz.func27, Tryz.ntmps27
  go_wp2_with fail
  have hC := blk_new w (lnI pl dev seq K ky ka na sa kb nb sb) 49
  have hB := b0 w (.cells (lnI pl dev seq K ky ka na sa kb nb sb) 49)
  generalize w.alloc (.cells (lnI pl dev seq K ky ka na sa kb nb sb) 49) = W at hC hB ⊢
  generalize hb : w.heap.size = b at hC hB ⊢
  go_region_held3 (fun w' => w'.cell? ⟨b, 0, none⟩ = some (.int .i64 pl) ∧ w'.cell? ⟨b, 1, none⟩ = some (.int .i64 dev) ∧ w'.cell? ⟨b, 2, none⟩ = some (.int .i64 seq) ∧ w'.cell? ⟨b, 3, none⟩ = some (.int .i64 K) ∧ w'.cell? ⟨b, 4, none⟩ = some (.string ky) ∧ w'.cell? ⟨b, 5, none⟩ = some (.int .i64 ka) ∧ w'.cell? ⟨b, 6, none⟩ = some (.int .i64 na) ∧ w'.cell? ⟨b, 7, none⟩ = some (.string sa) ∧ w'.cell? ⟨b, 8, none⟩ = some (.int .i64 kb) ∧ w'.cell? ⟨b, 9, none⟩ = some (.int .i64 nb) ∧ w'.cell? ⟨b, 10, none⟩ = some (.string sb) ∧ Blk w' b #[.int .i64 pl, .int .i64 dev, .int .i64 seq, .int .i64 K, .string ky, .int .i64 ka, .int .i64 na, .string sa, .int .i64 kb, .int .i64 nb, .string sb] 49 ∧ Below b w w')
    (first | assumption | exact sb11_0 hC hB | exact sb11_1 (by assumption) (by assumption))
    (first
      | (go_at_call 29; ((with_reducible refine (HT.out _).mono ?_); rintro e w1 ⟨⟨A1, n1, c1, rfl, hl1, hr1, hc1⟩, hb1⟩))
      | (go_at_call 28; ((with_reducible refine (HV.out _ A1 n1 c1 hl1 (by rw [← hl1]; exact hts2) hr1 hc1).mono ?_); rintro e w2 ⟨⟨A2, n2, c2, rfl, hl2, hr2, hc2⟩, hb2⟩)))
  have hfin := sb11_b (w' := w2) (by assumption)
  go_wp2_with fail
  go_ret
  exact ⟨⟨A2, n2, c2, rfl, hl2, hr2, hc2⟩, by rw [hb]; exact hfin⟩

theorem clB_small {c : Cl} (h : c.good = true) (hf : c.fits) : (clB c).length ≤ 3000000 := by
  obtain ⟨h1, h2, h3, h4, h5⟩ := cl_in h
  have a := textB_small (s := c.ky) (by omega)
  have b := valB_small (s := c.s) (goodB_in h5).1 hf.2.2.1 hf.2.2.2 (by omega)
  unfold clB
  rw [List.length_append]
  omega
theorem lnB_small {x : Ln} (h : x.good = true) (hf : x.fits) : (lnB x).length ≤ 5000000 := by
  obtain ⟨h1, h2⟩ := ln_in h
  obtain ⟨g1, g2, g3, g4, g5, g6⟩ := good_in h2
  obtain ⟨_, _, _, f1, f2⟩ := hf
  have a0 := numB_small (n := x.pl.toNat) (by omega)
  have a1 := numB_small (n := x.w.dev.toNat) (by omega)
  have a2 := numB_small (n := x.w.seq.toNat) (by omega)
  have a3 := numB_small (n := x.w.K.toNat) (by omega)
  have a4 := textB_small (s := x.w.ky) (by omega)
  have a5 := valB_small (s := x.w.sa) g5.1 f1.1 f1.2 (by omega)
  have a6 := valB_small (s := x.w.sb) g6.1 f2.1 f2.2 (by omega)
  unfold lnB wB wrB
  simp only [List.length_append]
  omega

set_option maxRecDepth 100000 in
theorem putR_any (A A2 : Option Addr) (n c m d : Nat) (L : List UInt8) (l : List ByteArray) (w : World) (hl : L.length = n) (hn : n ≤ 1000000) (hc : n ≤ c) (hr : RdB w.heap.size w A L) (hm : l.length = m) (hm1 : m ≤ 100000) (hr2 : RdX 1 w.heap.size w A2 (l.map strC)) (hg : ∀ x, x ∈ l → x.size ≤ 1000) :
    Calls Tryz.prog 23 #[.slice A n c, .slice A2 m d] w fun e w' => PutX w.heap.size w (L ++ (numB m ++ l.flatMap (fun s : ByteArray => textB s.data.toList))) e w' := by
  have hE : ∀ x, x ∈ l → 0 < ((fun s : ByteArray => textB s.data.toList) x).length ∧ ((fun s : ByteArray => textB s.data.toList) x).length ≤ 5000000 := fun x hx => ⟨text_pos _, Nat.le_trans (textB_small (s := x) (by have := hg x hx; omega)) (by omega)⟩
  have hF : PutsF 54 Value.string (fun s : ByteArray => textB s.data.toList) l := fun x hx W => putR1_any x W (by have := hg x hx; omega)
  have HP := Lib.hid (putListS_any 54 (fun s : ByteArray => textB s.data.toList) enters_putR A A2 n c m d L l w hl hn hc hr hm hm1 hr2 hE hF)
  clear hE hF
  go_enter Tryz.func23, Tryz.ntmps23
  go_wp2_with fail
  refine HP.out.mono ?_
  rintro e w1 ⟨⟨A1, n1, c1, rfl, hO1⟩, hb1⟩
  go_wp2_with fail
  go_ret
  exact ⟨⟨A1, n1, c1, rfl, hO1⟩, hb1⟩

set_option maxRecDepth 100000 in
theorem putC_any (A A2 : Option Addr) (n c m d : Nat) (L : List UInt8) (l : List Cl) (w : World) (hl : L.length = n) (hn : n ≤ 1000000) (hc : n ≤ c) (hr : RdB w.heap.size w A L) (hm : l.length = m) (hm1 : m ≤ 100000) (hr2 : RdX 4 w.heap.size w A2 (l.map Cl.cells)) (hg : ∀ x, x ∈ l → x.good = true ∧ x.fits) :
    Calls Tryz.prog 24 #[.slice A n c, .slice A2 m d] w fun e w' => PutX w.heap.size w (L ++ (numB m ++ l.flatMap clB)) e w' := by
  have hE : ∀ x, x ∈ l → 0 < (clB x).length ∧ (clB x).length ≤ 5000000 := fun x hx => ⟨Nat.pos_of_ne_zero (clB_pos (hg x hx).1), Nat.le_trans (clB_small (hg x hx).1 (hg x hx).2) (by omega)⟩
  have hF : PutsF 57 clV clB l := fun x hx W => putC1_any x W (hg x hx).1 (hg x hx).2
  have HP := Lib.hid (putListC_any 57 clB enters_putC A A2 n c m d L l w hl hn hc hr hm hm1 hr2 hE hF)
  clear hE hF
  go_enter Tryz.func24, Tryz.ntmps24
  go_wp2_with fail
  refine HP.out.mono ?_
  rintro e w1 ⟨⟨A1, n1, c1, rfl, hO1⟩, hb1⟩
  go_wp2_with fail
  go_ret
  exact ⟨⟨A1, n1, c1, rfl, hO1⟩, hb1⟩

set_option maxRecDepth 100000 in
theorem putL_any (A A2 : Option Addr) (n c m d : Nat) (L : List UInt8) (l : List Ln) (w : World) (hl : L.length = n) (hn : n ≤ 1000000) (hc : n ≤ c) (hr : RdB w.heap.size w A L) (hm : l.length = m) (hm1 : m ≤ 100000) (hr2 : RdX 11 w.heap.size w A2 (l.map Ln.cells)) (hg : ∀ x, x ∈ l → x.good = true ∧ x.fits) :
    Calls Tryz.prog 9 #[.slice A n c, .slice A2 m d] w fun e w' => PutX w.heap.size w (L ++ (numB m ++ l.flatMap lnB)) e w' := by
  have hE : ∀ x, x ∈ l → 0 < (lnB x).length ∧ (lnB x).length ≤ 5000000 := fun x hx => ⟨Nat.pos_of_ne_zero (lnB_pos x), lnB_small (hg x hx).1 (hg x hx).2⟩
  have hF : PutsF 27 lnV lnB l := fun x hx W => putL1_any x W (hg x hx).1 (hg x hx).2
  have HP := Lib.hid (putListL_any 27 lnB enters_putL A A2 n c m d L l w hl hn hc hr hm hm1 hr2 hE hF)
  clear hE hF
  go_enter Tryz.func9, Tryz.ntmps9
  go_wp2_with fail
  refine HP.out.mono ?_
  rintro e w1 ⟨⟨A1, n1, c1, rfl, hO1⟩, hb1⟩
  go_wp2_with fail
  go_ret
  exact ⟨⟨A1, n1, c1, rfl, hO1⟩, hb1⟩
end Go.Proofs.YtpjleeeligahaaaGreatDoor

namespace Go.Proofs.YtpjleeeligahaaaGreatDoor
open Go.RowKit

/-- A block of one-cell things, as a slice over it reads. -/
theorem blk_rdx1 {W : World} {b : Nat} {cs : Array Value} {t : TypeId} (h : Blk W b cs t) : RdX 1 (b + 1) W (some ⟨b, 0, none⟩) (cs.toList.map fun v => #[v]) := by
  intro k c hk
  rw [List.getElem?_map, Array.getElem?_toList] at hk
  cases hv : cs[k]? with
  | none => rw [hv] at hk; cases hk
  | some v =>
    rw [hv] at hk
    injection hk with hk
    subst hk
    refine ⟨_, rfl, Nat.lt_succ_self _, fun j u hj => ?_⟩
    have hj0 : j = 0 := by
      have := (Array.getElem?_eq_some_iff.1 hj).1
      simp at this
      omega
    subst hj0
    injection hj with hj
    subst hj
    rw [Nat.mul_one, Nat.add_zero, zeroX_at, h.cell k]
    exact hv
theorem blk_la {W : World} {b : Nat} {a0 a1 a2 a3 a4 a5 a6 a7 a8 a9 a10 a11 : Int} {t : TypeId} (h : Blk W b (laI a0 a1 a2 a3 a4 a5 a6 a7 a8 a9 a10 a11) t) : RdX 1 (b + 1) W (some ⟨b, 0, none⟩) ((laL a0 a1 a2 a3 a4 a5 a6 a7 a8 a9 a10 a11).map intC) := blk_rdx1 h
set_option maxRecDepth 100000 in
theorem clip_any (A : Option Addr) (n c : Nat) (w : World) (hc : n ≤ c) :
    Calls Tryz.prog 144 #[.slice A n c] w fun e w' => e = .returned (.slice A n n) ∧ w' = w := by
  go_enter Tryz.func144, Tryz.ntmps144
  go_wp2_with fail
  go_ret
  exact ⟨rfl, rfl⟩
theorem blkB_0 {W w0 : World} {b : Nat} {cs : Array Value} {t : TypeId} (h : Blk W b cs t) (hB : Below b w0 W) : Blk W.drew b cs t ∧ Below b w0 W.drew := ⟨h, hB.drew⟩
theorem blkB_1 {W w0 w1 : World} {b : Nat} {cs : Array Value} {t : TypeId} (h : Blk W b cs t ∧ Below b w0 W) (hb : Below (b + 1) W w1) : Blk w1 b cs t ∧ Below b w0 w1 :=
  ⟨(hb.block b (Nat.lt_succ_self _)).trans h.1, h.2.trans (hb.mono (Nat.le_succ _))⟩

set_option maxRecDepth 100000 in
set_option maxHeartbeats 4000000 in
theorem putLa_any (A : Option Addr) (n c : Nat) (L : List UInt8) (a0 a1 a2 a3 a4 a5 a6 a7 a8 a9 a10 a11 : Int) (w : World) (hl : L.length = n) (hn : n ≤ 1000000) (hc : n ≤ c) (hr : RdB w.heap.size w A L) (hg : ∀ x, x ∈ laL a0 a1 a2 a3 a4 a5 a6 a7 a8 a9 a10 a11 → 0 ≤ x ∧ x ≤ 1000000) :
    Calls Tryz.prog 101 #[.slice A n c, .agg (laI a0 a1 a2 a3 a4 a5 a6 a7 a8 a9 a10 a11)] w fun e w' => PutX w.heap.size w (L ++ laB (laL a0 a1 a2 a3 a4 a5 a6 a7 a8 a9 a10 a11)) e w' := by
  have HV : Hid (∀ W (_ : Blk W w.heap.size (laI a0 a1 a2 a3 a4 a5 a6 a7 a8 a9 a10 a11) 56 ∧ Below w.heap.size w W), Calls Tryz.prog 143 #[.slice A n n, .slice (some ⟨w.heap.size, 0, none⟩) 12 12, .func (.func 29) #[] #[]] W fun e w' => PutX (w.heap.size + 1) W (L ++ laB (laL a0 a1 a2 a3 a4 a5 a6 a7 a8 a9 a10 a11)) e w') :=
    fun W hS => putAllI_any (w.heap.size + 1) 29 (fun x => numB x.toNat) enters_num A (some ⟨w.heap.size, 0, none⟩) n n 12 12 L (laL a0 a1 a2 a3 a4 a5 a6 a7 a8 a9 a10 a11) W (.inr ⟨(hr.keep hS.2 (Nat.le_refl _)).more hS.2.size, hl, rfl, hn⟩) (.inr (by omega)) hS.1.lt (by omega) rfl (by omega) (blk_la hS.1)
      (fun x hx => ⟨by rw [numB_len]; omega, Nat.le_trans (numB_small (by have := hg x hx; omega)) (by omega)⟩) (fun x hx W => number_any x W (hg x hx).1 (hg x hx).2)
  clear hg hr hl
  go_enter Tryz.func101, Tryz.ntmps101
  go_wp2_with fail
  have hC := blk_new w (laI a0 a1 a2 a3 a4 a5 a6 a7 a8 a9 a10 a11) 56
  have hB := b0 w (.cells (laI a0 a1 a2 a3 a4 a5 a6 a7 a8 a9 a10 a11) 56)
  generalize w.alloc (.cells (laI a0 a1 a2 a3 a4 a5 a6 a7 a8 a9 a10 a11) 56) = W at hC hB ⊢
  generalize hb : w.heap.size = b at hC hB HV ⊢
  go_region_held3 (fun w' => Blk w' b (laI a0 a1 a2 a3 a4 a5 a6 a7 a8 a9 a10 a11) 56 ∧ Below b w w')
    (first | assumption | exact blkB_0 hC hB | exact blkB_1 (by assumption) (by assumption))
    (first
      | (go_at_call 144; ((with_reducible refine (clip_any A n c _ hc).mono ?_); rintro e w1 ⟨rfl, rfl⟩))
      | (go_at_call 143; ((with_reducible refine (HV.out _ (by assumption)).mono ?_); rintro e w2 ⟨⟨A2, n2, c2, rfl, hO2⟩, hb2⟩)))
  have hfin : Blk w2 b (laI a0 a1 a2 a3 a4 a5 a6 a7 a8 a9 a10 a11) 56 ∧ Below b w w2 := by assumption
  go_wp2_with fail
  go_ret
  exact ⟨⟨A2, n2, c2, rfl, by rw [hb]; exact hO2.less (Nat.le_succ _)⟩, by rw [hb]; exact hfin.2⟩
end Go.Proofs.YtpjleeeligahaaaGreatDoor
