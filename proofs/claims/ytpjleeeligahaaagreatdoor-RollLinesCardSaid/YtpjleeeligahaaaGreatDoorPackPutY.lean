/-
  WHAT IS PROVED: package pack's calls that put values and writes behind other bytes (Value, Write, Writes): the document's bytes, and what was handed in stays. Conditions: those typed in each theorem.
-/
import Derived.Test.YtpjleeeligahaaaGreatDoorGQ9
import Derived.Test.YtpjleeeligahaaaGreatDoorGQ6
namespace Go.Proofs.YtpjleeeligahaaaGreatDoor
open Go.RowKit

section
variable {W w0 w' w1 : World} {b B : Nat} {v0 v1 v2 : Value} {t : TypeId}
theorem sV0 (h : Blk W b #[v0, v1, v2] t) (hB : Below B w0 W) : W.drew.cell? ⟨b, 0, none⟩ = some v0 ∧ W.drew.cell? ⟨b, 1, none⟩ = some v1 ∧ W.drew.cell? ⟨b, 2, none⟩ = some v2 ∧ Blk W.drew b #[v0, v1, v2] t ∧ Below B w0 W.drew :=
  ⟨h.cell 0, h.cell 1, h.cell 2, h, hB.drew⟩
theorem sV1 (h : w'.cell? ⟨b, 0, none⟩ = some v0 ∧ w'.cell? ⟨b, 1, none⟩ = some v1 ∧ w'.cell? ⟨b, 2, none⟩ = some v2 ∧ Blk w' b #[v0, v1, v2] t ∧ Below B w0 w') (hb : Below B w' w1) (ho : Oth w' w1) (ht : t ≠ 5) :
    w1.cell? ⟨b, 0, none⟩ = some v0 ∧ w1.cell? ⟨b, 1, none⟩ = some v1 ∧ w1.cell? ⟨b, 2, none⟩ = some v2 ∧ Blk w1 b #[v0, v1, v2] t ∧ Below B w0 w1 := by
  have hk := ho.blk ht h.2.2.2.1
  exact ⟨hk.cell 0, hk.cell 1, hk.cell 2, hk, h.2.2.2.2.trans hb⟩
theorem sVB (h : w'.cell? ⟨b, 0, none⟩ = some v0 ∧ w'.cell? ⟨b, 1, none⟩ = some v1 ∧ w'.cell? ⟨b, 2, none⟩ = some v2 ∧ Blk w' b #[v0, v1, v2] t ∧ Below B w0 w') : Below B w0 w' := h.2.2.2.2
end
section
variable {W w0 w' w1 : World} {b B : Nat} {v0 v1 v2 v3 v4 v5 v6 v7 v8 v9 : Value} {t : TypeId}
theorem sW0 (h : Blk W b #[v0, v1, v2, v3, v4, v5, v6, v7, v8, v9] t) (hB : Below B w0 W) : W.drew.cell? ⟨b, 0, none⟩ = some v0 ∧ W.drew.cell? ⟨b, 1, none⟩ = some v1 ∧ W.drew.cell? ⟨b, 2, none⟩ = some v2 ∧ W.drew.cell? ⟨b, 3, none⟩ = some v3 ∧ W.drew.cell? ⟨b, 4, none⟩ = some v4 ∧ W.drew.cell? ⟨b, 5, none⟩ = some v5 ∧ W.drew.cell? ⟨b, 6, none⟩ = some v6 ∧ W.drew.cell? ⟨b, 7, none⟩ = some v7 ∧ W.drew.cell? ⟨b, 8, none⟩ = some v8 ∧ W.drew.cell? ⟨b, 9, none⟩ = some v9 ∧ Blk W.drew b #[v0, v1, v2, v3, v4, v5, v6, v7, v8, v9] t ∧ Below B w0 W.drew :=
  ⟨h.cell 0, h.cell 1, h.cell 2, h.cell 3, h.cell 4, h.cell 5, h.cell 6, h.cell 7, h.cell 8, h.cell 9, h, hB.drew⟩
theorem sW1 (h : w'.cell? ⟨b, 0, none⟩ = some v0 ∧ w'.cell? ⟨b, 1, none⟩ = some v1 ∧ w'.cell? ⟨b, 2, none⟩ = some v2 ∧ w'.cell? ⟨b, 3, none⟩ = some v3 ∧ w'.cell? ⟨b, 4, none⟩ = some v4 ∧ w'.cell? ⟨b, 5, none⟩ = some v5 ∧ w'.cell? ⟨b, 6, none⟩ = some v6 ∧ w'.cell? ⟨b, 7, none⟩ = some v7 ∧ w'.cell? ⟨b, 8, none⟩ = some v8 ∧ w'.cell? ⟨b, 9, none⟩ = some v9 ∧ Blk w' b #[v0, v1, v2, v3, v4, v5, v6, v7, v8, v9] t ∧ Below B w0 w') (hb : Below B w' w1) (ho : Oth w' w1) (ht : t ≠ 5) :
    w1.cell? ⟨b, 0, none⟩ = some v0 ∧ w1.cell? ⟨b, 1, none⟩ = some v1 ∧ w1.cell? ⟨b, 2, none⟩ = some v2 ∧ w1.cell? ⟨b, 3, none⟩ = some v3 ∧ w1.cell? ⟨b, 4, none⟩ = some v4 ∧ w1.cell? ⟨b, 5, none⟩ = some v5 ∧ w1.cell? ⟨b, 6, none⟩ = some v6 ∧ w1.cell? ⟨b, 7, none⟩ = some v7 ∧ w1.cell? ⟨b, 8, none⟩ = some v8 ∧ w1.cell? ⟨b, 9, none⟩ = some v9 ∧ Blk w1 b #[v0, v1, v2, v3, v4, v5, v6, v7, v8, v9] t ∧ Below B w0 w1 := by
  have hk := ho.blk ht h.2.2.2.2.2.2.2.2.2.2.1
  exact ⟨hk.cell 0, hk.cell 1, hk.cell 2, hk.cell 3, hk.cell 4, hk.cell 5, hk.cell 6, hk.cell 7, hk.cell 8, hk.cell 9, hk, h.2.2.2.2.2.2.2.2.2.2.2.trans hb⟩
theorem sWB (h : w'.cell? ⟨b, 0, none⟩ = some v0 ∧ w'.cell? ⟨b, 1, none⟩ = some v1 ∧ w'.cell? ⟨b, 2, none⟩ = some v2 ∧ w'.cell? ⟨b, 3, none⟩ = some v3 ∧ w'.cell? ⟨b, 4, none⟩ = some v4 ∧ w'.cell? ⟨b, 5, none⟩ = some v5 ∧ w'.cell? ⟨b, 6, none⟩ = some v6 ∧ w'.cell? ⟨b, 7, none⟩ = some v7 ∧ w'.cell? ⟨b, 8, none⟩ = some v8 ∧ w'.cell? ⟨b, 9, none⟩ = some v9 ∧ Blk w' b #[v0, v1, v2, v3, v4, v5, v6, v7, v8, v9] t ∧ Below B w0 w') : Below B w0 w' := h.2.2.2.2.2.2.2.2.2.2.2
end
theorem pre_in {w W : World} {A : Option Addr} {n : Nat} {l : List UInt8} (hl : l.length = n) (hn : n ≤ 1000000) (hr : RdB w.heap.size w A l) (hb : Below w.heap.size w W) : PreB w.heap.size W A n n l :=
  .inr ⟨(hr.keep hb (Nat.le_refl _)).more hb.size, hl, rfl, hn⟩

set_option maxRecDepth 100000 in
set_option maxHeartbeats 2000000 in
theorem packValue_any (A : Option Addr) (n c : Nat) (l : List UInt8) (k x : Int) (s : ByteArray) (w : World) (hl : l.length = n) (hn : n ≤ 100000) (hr : RdB w.heap.size w A l) (hc : n ≤ c) (hg : goodB k x s = true) (h0 : -9223372036854775808 ≤ x) (h1 : x ≤ 9223372036854775807) :
    Calls Tryz.prog 58 #[.slice A n c, .agg #[.int .i64 k, .int .i64 x, .string s]] w fun e w' => PutR w (l ++ valB k x s.data.toList) e w' := by
  have hG := goodB_in hg
  have HV := Lib.hid (fun W (hb : Below w.heap.size w W) => putValue_any w.heap.size A n n l k x s W (pre_in hl (by omega) hr hb) hb.size (show n ≤ 90000000000 by omega) hG.1 h0 h1 (by have := hG.2; omega))
  clear hg hG h0 h1 hr hl
  go_enter Tryz.func58, Tryz.ntmps58
  go_wp2_with fail
  have hC := blk_new w #[.int .i64 k, .int .i64 x, .string s] 43
  have hB := b0 w (.cells #[.int .i64 k, .int .i64 x, .string s] 43)
  generalize w.alloc (.cells #[.int .i64 k, .int .i64 x, .string s] 43) = W at hC hB ⊢
  generalize hb : w.heap.size = b at hC hB HV ⊢
  go_region_held3 (fun w' => w'.cell? ⟨b, 0, none⟩ = some (.int .i64 k) ∧ w'.cell? ⟨b, 1, none⟩ = some (.int .i64 x) ∧ w'.cell? ⟨b, 2, none⟩ = some (.string s) ∧ Blk w' b #[.int .i64 k, .int .i64 x, .string s] 43 ∧ Below b w w')
    (first | assumption | exact sV0 hC hB | exact sV1 (by assumption) (by assumption) (by assumption) (by decide))
    (first
      | (go_at_call 64; ((with_reducible refine (own_any A n c _ hc).mono ?_); rintro e w1 ⟨rfl, rfl⟩))
      | (go_at_call 110; ((with_reducible refine (HV.out _ (sVB (by assumption))).mono ?_); rintro e w2 ⟨⟨A2, n2, c2, rfl, hO2⟩, hb2, ho2⟩)))
  have hfin := sVB (w' := w2) (by assumption)
  go_wp2_with fail
  go_ret
  exact ⟨⟨A2, n2, c2, rfl, hO2.len, (by subst hb; exact hO2.rd), hO2.cap.1⟩, by rw [hb]; exact hfin⟩

set_option maxRecDepth 100000 in
set_option maxHeartbeats 4000000 in
theorem packWrite_any (A : Option Addr) (n c : Nat) (l : List UInt8) (x : Wr) (w : World) (hl : l.length = n) (hn : n ≤ 100000) (hr : RdB w.heap.size w A l) (hc : n ≤ c) (hg : x.good = true) (hf : x.fits) :
    Calls Tryz.prog 28 #[.slice A n c, .agg x.cells] w fun e w' => PutR w (l ++ wB x) e w' := by
  have HV := Lib.hid (fun W (hb : Below w.heap.size w W) => putWrite_any w.heap.size A n n l x W (pre_in hl (by omega) hr hb) hb.size (show n ≤ 80000000000 by omega) hg hf)
  clear hg hf hr hl
  obtain ⟨dev, seq, K, ky, ka, na, sa, kb, nb, sb⟩ := x
  go_enter Tryz.func28, Tryz.ntmps28
  go_wp2_with fail
  have hC := blk_new w (wrI dev seq K ky ka na sa kb nb sb) 47
  have hB := b0 w (.cells (wrI dev seq K ky ka na sa kb nb sb) 47)
  generalize w.alloc (.cells (wrI dev seq K ky ka na sa kb nb sb) 47) = W at hC hB ⊢
  generalize hb : w.heap.size = b at hC hB HV ⊢
  go_region_held3 (fun w' => w'.cell? ⟨b, 0, none⟩ = some (.int .i64 dev) ∧ w'.cell? ⟨b, 1, none⟩ = some (.int .i64 seq) ∧ w'.cell? ⟨b, 2, none⟩ = some (.int .i64 K) ∧ w'.cell? ⟨b, 3, none⟩ = some (.string ky) ∧ w'.cell? ⟨b, 4, none⟩ = some (.int .i64 ka) ∧ w'.cell? ⟨b, 5, none⟩ = some (.int .i64 na) ∧ w'.cell? ⟨b, 6, none⟩ = some (.string sa) ∧ w'.cell? ⟨b, 7, none⟩ = some (.int .i64 kb) ∧ w'.cell? ⟨b, 8, none⟩ = some (.int .i64 nb) ∧ w'.cell? ⟨b, 9, none⟩ = some (.string sb) ∧ Blk w' b (wrI dev seq K ky ka na sa kb nb sb) 47 ∧ Below b w w')
    (first | assumption | exact sW0 hC hB | exact sW1 (by assumption) (by assumption) (by assumption) (by decide))
    (first
      | (go_at_call 64; ((with_reducible refine (own_any A n c _ hc).mono ?_); rintro e w1 ⟨rfl, rfl⟩))
      | (go_at_call 63; ((with_reducible refine (HV.out _ (sWB (by assumption))).mono ?_); rintro e w2 ⟨⟨A2, n2, c2, rfl, hO2⟩, hb2, ho2⟩)))
  have hfin := sWB (w' := w2) (by assumption)
  go_wp2_with fail
  go_ret
  exact ⟨⟨A2, n2, c2, rfl, hO2.len, (by subst hb; exact hO2.rd), hO2.cap.1⟩, by rw [hb]; exact hfin⟩

set_option maxRecDepth 100000 in
set_option maxHeartbeats 4000000 in
theorem packWrites_any (A A2 : Option Addr) (n c m d : Nat) (l : List UInt8) (xs : List Wr) (w : World) (hl : l.length = n) (hn : n ≤ 100000) (hr : RdB w.heap.size w A l) (hc : n ≤ c) (hm : xs.length = m) (hm1 : m ≤ 1000) (hr2 : RdW w.heap.size w A2 xs) (hf : ∀ x, x ∈ xs → x.fits ∧ x.good = true) :
    Calls Tryz.prog 100 #[.slice A n c, .slice A2 m d] w fun e w' => PutR w (l ++ wsB xs) e w' := by
  have HN := Lib.hid hm
  have HR := Lib.hid (fun W hb => hr2.keep (W' := W) hb (Nat.le_refl _))
  have wn : IntKind.u64.wrap (m : Int) = (m : Int) := wrap_size (by omega)
  have hP := putNumber_any w.heap.size A n n l m w (pre_in hl (by omega) hr (Below.refl _ _)) (Nat.le_refl _) (by omega) (by omega)
  clear hm hr2 hr
  go_enter Tryz.func100, Tryz.ntmps100
  go_wp2_with fail
  refine (own_any A n c w hc).mono ?_
  rintro e w0 ⟨rfl, rfl⟩
  go_wp2_with fail
  refine hP.mono ?_
  rintro e w1 ⟨⟨A1, n1, c1, rfl, hO1⟩, hb1, -⟩
  have hn1 := put_len hO1 hl (numB_small (n := m) (by omega))
  go_wp2_with fail
  go_loopw [0, 15] (fun b i wr => ∃ (k : Nat) (A3 : Option Addr) (n3 c3 : Nat), k ≤ m ∧ i = .int .i64 k ∧ b = .slice A3 n3 c3 ∧ n3 ≤ 100009 + 5000000 * k ∧ OwnB w0.heap.size wr A3 n3 c3 (l ++ numB m ++ (xs.take k).flatMap wB) ∧ Below w0.heap.size w0 wr) (fun _ i _ => m - (intOf i).toNat)
  case atStart => exact ⟨0, A1, n1, c1, Nat.zero_le _, rfl, rfl, by omega, by simpa using hO1, hb1⟩
  case round =>
    clear hO1 hb1 hn1 hP
    obtain ⟨k, A3, n3, d3, hk, rfl, rfl, hn3, hO, hW⟩ := hrel
    by_cases hlt : k < m
    · obtain ⟨x, hx⟩ : ∃ x, xs[k]? = some x := ⟨_, List.getElem?_eq_getElem (show k < xs.length by have := HN.out; omega)⟩
      obtain ⟨ad, rfl, _, hcl⟩ := HR.out wr hW k x hx
      have i1 : (0 : Int) ≤ (k : Int) := by omega
      have i2 : (k : Int) < (m : Int) := by omega
      have HX := Lib.hid hx
      have hfx := hf x (List.mem_of_getElem? hx)
      have hsm := wB_small hfx.2 hfx.1
      have HF := Lib.hid hfx
      clear hx hfx
      obtain ⟨c0, c1, c2, c3, c4, c5, c6, c7, c8, c9⟩ := wr_cells hcl
      clear hcl
      have hE : l ++ numB m ++ (xs.take k).flatMap wB ++ wB x = l ++ numB m ++ (xs.take (k + 1)).flatMap wB := by
        rw [List.take_add_one, HX.out]
        simp
      have HE := Lib.hid hE
      clear hE
      have hO2 := hO.keep (b0 wr (.cells x.cells 47))
      have hl2 := hO.len
      have hW2 := hW.alloc hW.size (.cells x.cells 47)
      have hz := hW2.size
      go_wp2_with fail
      refine (putWrite_any w0.heap.size A3 n3 d3 _ x _ (.inl hO2) hz (by omega) HF.out.2 HF.out.1).mono ?_
      rintro e w2 ⟨⟨A4, n4, d4, rfl, hO4⟩, hb4, -⟩
      have hn4 := put_len hO4 hl2 hsm
      rw [HE.out] at hO4
      have hW4 := hW2.trans hb4
      go_wp2_with fail
      go_roundw
      case rel => exact ⟨k + 1, A4, n4, d4, by omega, by go_num, rfl, by rw [Nat.mul_succ, ← Nat.add_assoc]; exact Nat.le_trans hn4 (Nat.add_le_add_right hn3 _), hO4, hW4⟩
      case measure => simp [intOf]; omega
    · have hq : ¬ (k : Int) < (m : Int) := by omega
      have hE : l ++ numB m ++ (xs.take k).flatMap wB = l ++ wsB xs := by
        unfold wsB
        rw [HN.out, List.take_of_length_le (by have := HN.out; omega), List.append_assoc]
      rw [hE] at hO
      go_wp2_with fail
      go_ret
      exact ⟨⟨A3, n3, d3, rfl, hO.len, hO.rd, hO.cap.1⟩, hW⟩
end Go.Proofs.YtpjleeeligahaaaGreatDoor
