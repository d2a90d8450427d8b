/-
  WHAT IS PROVED: package pack's own calls that put values and writes behind other bytes (putValue, putWrite): the document's bytes. Conditions: those typed in each theorem. · package pack's calls that put things behind other bytes (Number, Int, Text, Flag, Value, Write, Writes): the document's bytes, and what was handed in stays. Conditions: those typed in each theorem. · package pack's calls that put values and writes behind other bytes (Value, Write, Writes): the document's bytes, and what was handed in stays. Conditions: those typed in each theorem.
-/
import Derived.Test.YtokkmofcijfmiabGQ5
import Derived.Test.YtokkmofcijfmiabGQ2
import Derived.Test.YtokkmofcijfmiabGQ6
namespace Go.Proofs.Ytokkmofcijfmiab
open Go.RowKit

theorem put_len {base n : Nat} {W : World} {A : Option Addr} {n2 c2 : Nat} {l m : List UInt8} (hO : OwnB base W A n2 c2 (l ++ m)) (hl : l.length = n) {q : Nat} (hm : m.length ≤ q) : n2 ≤ n + q := by
  have h1 := hO.len
  rw [List.length_append] at h1
  omega
theorem Oth.blk {w w' : World} (h : Oth w w') {b : Nat} {cs : Array Value} {t : TypeId} (ht : t ≠ 5) (hb : Blk w b cs t) : Blk w' b cs t := h b cs t ht hb

set_option maxRecDepth 100000 in
set_option maxHeartbeats 2000000 in
theorem putValue_any (base : Nat) (A : Option Addr) (n c : Nat) (l : List UInt8) (k x : Int) (s : ByteArray) (w : World) (hp : PreB base w A n c l) (hb : base ≤ w.heap.size) (hm : n ≤ 90000000000)
    (hk : k = 0 ∨ k = 1 ∨ k = 2) (h0 : -9223372036854775808 ≤ x) (h1 : x ≤ 9223372036854775807) (hs : s.size ≤ 1000000) :
    Calls Try.prog 72 #[.slice A n c, .agg #[.int .i64 k, .int .i64 x, .string s]] w fun e w' => PutO base w (l ++ valB k x s.data.toList) e w' := by
  have H0 := Lib.hid h0
  have H1 := Lib.hid h1
  have hl := hp.len
  clear h0 h1
  rcases hk with rfl | rfl | rfl
  all_goals
    go_enter Try.func72, Try.ntmps72
    go_wp2_with fail
  · have hC := blk_new w #[.int .i64 0, .int .i64 x, .string s] 31
    have hB := (Below.refl base w).alloc hb (.cells #[.int .i64 0, .int .i64 x, .string s] 31)
    have hp2 := hp.keep (b0 w (.cells #[.int .i64 0, .int .i64 x, .string s] 31))
    have hT := Oth.below (b0 w (.cells #[.int .i64 0, .int .i64 x, .string s] 31))
    clear hp
    generalize w.alloc (.cells #[.int .i64 0, .int .i64 x, .string s] 31) = W at hC hB hp2 hT ⊢
    have hbW := Nat.le_trans hb hB.size
    refine (putNumber_any base A n c l 0 W hp2 hbW (by omega) (by omega)).mono ?_
    rintro e w1 ⟨⟨A2, n2, d2, rfl, hO⟩, hb2, ht2⟩
    obtain ⟨q0, q1, q2, q3⟩ := (ht2.blk (by decide) hC).c3
    go_wp2_with fail
    go_ret
    exact ⟨⟨A2, n2, d2, rfl, by rw [valB_0]; exact hO⟩, hB.trans hb2, hT.trans ht2⟩
  · have hC := blk_new w #[.int .i64 1, .int .i64 x, .string s] 31
    have hB := (Below.refl base w).alloc hb (.cells #[.int .i64 1, .int .i64 x, .string s] 31)
    have hp2 := hp.keep (b0 w (.cells #[.int .i64 1, .int .i64 x, .string s] 31))
    have hT := Oth.below (b0 w (.cells #[.int .i64 1, .int .i64 x, .string s] 31))
    clear hp
    generalize w.alloc (.cells #[.int .i64 1, .int .i64 x, .string s] 31) = W at hC hB hp2 hT ⊢
    have hbW := Nat.le_trans hb hB.size
    refine (putNumber_any base A n c l 1 W hp2 hbW (by omega) (by omega)).mono ?_
    rintro e w1 ⟨⟨A2, n2, d2, rfl, hO⟩, hb2, ht2⟩
    have hC1 := ht2.blk (by decide) hC
    have hn2 := put_len hO hl (numB_small (n := 1) (by omega))
    obtain ⟨q0, q1, q2, q3⟩ := hC1.c3
    go_wp2_with fail
    refine (putInt_any base A2 n2 d2 _ x w1 (.inl hO) (Nat.le_trans hbW hb2.size) (by omega) H0.out H1.out).mono ?_
    rintro e w2 ⟨⟨A3, n3, d3, rfl, hO3⟩, hb3, ht3⟩
    clear q0 q1 q2 q3
    obtain ⟨q0, q1, q2, q3⟩ := (ht3.blk (by decide) hC1).c3
    go_wp2_with fail
    go_ret
    exact ⟨⟨A3, n3, d3, rfl, by rw [valB_1, ← List.append_assoc]; exact hO3⟩, hB.trans (hb2.trans hb3), hT.trans (ht2.trans ht3)⟩
  · have hC := blk_new w #[.int .i64 2, .int .i64 x, .string s] 31
    have hB := (Below.refl base w).alloc hb (.cells #[.int .i64 2, .int .i64 x, .string s] 31)
    have hp2 := hp.keep (b0 w (.cells #[.int .i64 2, .int .i64 x, .string s] 31))
    have hT := Oth.below (b0 w (.cells #[.int .i64 2, .int .i64 x, .string s] 31))
    clear hp
    generalize w.alloc (.cells #[.int .i64 2, .int .i64 x, .string s] 31) = W at hC hB hp2 hT ⊢
    have hbW := Nat.le_trans hb hB.size
    refine (putNumber_any base A n c l 2 W hp2 hbW (by omega) (by omega)).mono ?_
    rintro e w1 ⟨⟨A2, n2, d2, rfl, hO⟩, hb2, ht2⟩
    have hC1 := ht2.blk (by decide) hC
    have hn2 := put_len hO hl (numB_small (n := 2) (by omega))
    obtain ⟨q0, q1, q2, q3⟩ := hC1.c3
    go_wp2_with fail
    refine (putText_any base A2 n2 d2 _ s w1 (.inl hO) (Nat.le_trans hbW hb2.size) (by omega) (by omega)).mono ?_
    rintro e w2 ⟨⟨A3, n3, d3, rfl, hO3⟩, hb3, ht3⟩
    clear q0 q1 q2 q3
    obtain ⟨q0, q1, q2, q3⟩ := (ht3.blk (by decide) hC1).c3
    go_wp2_with fail
    go_ret
    exact ⟨⟨A3, n3, d3, rfl, by rw [valB_2, ← List.append_assoc]; exact hO3⟩, hB.trans (hb2.trans hb3), hT.trans (ht2.trans ht3)⟩

theorem valB_short {k n : Int} {s : ByteArray} (hk : k = 0 ∨ k = 1 ∨ k = 2) (h0 : -9223372036854775808 ≤ n) (h1 : n ≤ 9223372036854775807) (hs : s.size ≤ 1000) : (valB k n s.data.toList).length ≤ 2000000 :=
  Nat.le_trans (valB_small hk h0 h1 (by omega)) (by omega)

end Go.Proofs.Ytokkmofcijfmiab

namespace Go.Proofs.Ytokkmofcijfmiab
open Go.RowKit

theorem PutO.putR {w W : World} {L : List UInt8} {e : Ending} {w' : World} (hB : Below w.heap.size w W) (h : PutO w.heap.size W L e w') : PutR w L e w' := by
  obtain ⟨⟨A, n, c, rfl, hO⟩, hb, _⟩ := h
  exact ⟨⟨A, n, c, rfl, hO.len, hO.rd, hO.cap.1⟩, hB.trans hb⟩
theorem preB_of {w : World} {A : Option Addr} {n : Nat} {l : List UInt8} (hl : l.length = n) (hn : n ≤ 1000000) (hr : RdB w.heap.size w A l) : PreB w.heap.size w A n n l := .inr ⟨hr, hl, rfl, hn⟩

set_option maxRecDepth 100000 in
theorem packText_any (A : Option Addr) (n c : Nat) (l : List UInt8) (s : ByteArray) (w : World) (hl : l.length = n) (hn : n ≤ 100000) (hr : RdB w.heap.size w A l) (hc : n ≤ c) (hs : s.size ≤ 100000) :
    Calls Try.prog 52 #[.slice A n c, .string s] w fun e w' => PutR w (l ++ textB s.data.toList) e w' := by
  go_enter Try.func52, Try.ntmps52
  go_wp2_with fail
  refine (own_any A n c w hc).mono ?_
  rintro e w1 ⟨rfl, rfl⟩
  go_wp2_with fail
  refine (putText_any w1.heap.size A n n l s w1 (preB_of hl (by omega) hr) (Nat.le_refl _) (by omega) (by omega)).mono ?_
  rintro e w2 hP
  obtain ⟨⟨A2, n2, c2, rfl, hr2⟩, hb2⟩ := PutO.putR (Below.refl _ _) hP
  go_wp2_with fail
  go_ret
  exact ⟨⟨A2, n2, c2, rfl, hr2⟩, hb2⟩

end Go.Proofs.Ytokkmofcijfmiab

namespace Go.Proofs.Ytokkmofcijfmiab
open Go.RowKit

section
variable {W w0 w' w1 : World} {b B : Nat} {v0 v1 v2 : Value} {t : TypeId}
theorem sV0 (h : Blk W b #[v0, v1, v2] t) (hB : Below B w0 W) : W.drew.cell? ⟨b, 0, none⟩ = some v0 ∧ W.drew.cell? ⟨b, 1, none⟩ = some v1 ∧ W.drew.cell? ⟨b, 2, none⟩ = some v2 ∧ Blk W.drew b #[v0, v1, v2] t ∧ Below B w0 W.drew :=
  ⟨h.cell 0, h.cell 1, h.cell 2, h, hB.drew⟩
theorem sV1 (h : w'.cell? ⟨b, 0, none⟩ = some v0 ∧ w'.cell? ⟨b, 1, none⟩ = some v1 ∧ w'.cell? ⟨b, 2, none⟩ = some v2 ∧ Blk w' b #[v0, v1, v2] t ∧ Below B w0 w') (hb : Below B w' w1) (ho : Oth w' w1) (ht : t ≠ 5) :
    w1.cell? ⟨b, 0, none⟩ = some v0 ∧ w1.cell? ⟨b, 1, none⟩ = some v1 ∧ w1.cell? ⟨b, 2, none⟩ = some v2 ∧ Blk w1 b #[v0, v1, v2] t ∧ Below B w0 w1 := by
  have hk := ho.blk ht h.2.2.2.1
  exact ⟨hk.cell 0, hk.cell 1, hk.cell 2, hk, h.2.2.2.2.trans hb⟩
theorem sVB (h : w'.cell? ⟨b, 0, none⟩ = some v0 ∧ w'.cell? ⟨b, 1, none⟩ = some v1 ∧ w'.cell? ⟨b, 2, none⟩ = some v2 ∧ Blk w' b #[v0, v1, v2] t ∧ Below B w0 w') : Below B w0 w' := h.2.2.2.2
end
section
variable {W w0 w' w1 : World} {b B : Nat} {v0 v1 v2 v3 v4 v5 v6 v7 v8 v9 : Value} {t : TypeId}
theorem sW0 (h : Blk W b #[v0, v1, v2, v3, v4, v5, v6, v7, v8, v9] t) (hB : Below B w0 W) : W.drew.cell? ⟨b, 0, none⟩ = some v0 ∧ W.drew.cell? ⟨b, 1, none⟩ = some v1 ∧ W.drew.cell? ⟨b, 2, none⟩ = some v2 ∧ W.drew.cell? ⟨b, 3, none⟩ = some v3 ∧ W.drew.cell? ⟨b, 4, none⟩ = some v4 ∧ W.drew.cell? ⟨b, 5, none⟩ = some v5 ∧ W.drew.cell? ⟨b, 6, none⟩ = some v6 ∧ W.drew.cell? ⟨b, 7, none⟩ = some v7 ∧ W.drew.cell? ⟨b, 8, none⟩ = some v8 ∧ W.drew.cell? ⟨b, 9, none⟩ = some v9 ∧ Blk W.drew b #[v0, v1, v2, v3, v4, v5, v6, v7, v8, v9] t ∧ Below B w0 W.drew :=
  ⟨h.cell 0, h.cell 1, h.cell 2, h.cell 3, h.cell 4, h.cell 5, h.cell 6, h.cell 7, h.cell 8, h.cell 9, h, hB.drew⟩
theorem sW1 (h : w'.cell? ⟨b, 0, none⟩ = some v0 ∧ w'.cell? ⟨b, 1, none⟩ = some v1 ∧ w'.cell? ⟨b, 2, none⟩ = some v2 ∧ w'.cell? ⟨b, 3, none⟩ = some v3 ∧ w'.cell? ⟨b, 4, none⟩ = some v4 ∧ w'.cell? ⟨b, 5, none⟩ = some v5 ∧ w'.cell? ⟨b, 6, none⟩ = some v6 ∧ w'.cell? ⟨b, 7, none⟩ = some v7 ∧ w'.cell? ⟨b, 8, none⟩ = some v8 ∧ w'.cell? ⟨b, 9, none⟩ = some v9 ∧ Blk w' b #[v0, v1, v2, v3, v4, v5, v6, v7, v8, v9] t ∧ Below B w0 w') (hb : Below B w' w1) (ho : Oth w' w1) (ht : t ≠ 5) :
    w1.cell? ⟨b, 0, none⟩ = some v0 ∧ w1.cell? ⟨b, 1, none⟩ = some v1 ∧ w1.cell? ⟨b, 2, none⟩ = some v2 ∧ w1.cell? ⟨b, 3, none⟩ = some v3 ∧ w1.cell? ⟨b, 4, none⟩ = some v4 ∧ w1.cell? ⟨b, 5, none⟩ = some v5 ∧ w1.cell? ⟨b, 6, none⟩ = some v6 ∧ w1.cell? ⟨b, 7, none⟩ = some v7 ∧ w1.cell? ⟨b, 8, none⟩ = some v8 ∧ w1.cell? ⟨b, 9, none⟩ = some v9 ∧ Blk w1 b #[v0, v1, v2, v3, v4, v5, v6, v7, v8, v9] t ∧ Below B w0 w1 := by
  have hk := ho.blk ht h.2.2.2.2.2.2.2.2.2.2.1
  exact ⟨hk.cell 0, hk.cell 1, hk.cell 2, hk.cell 3, hk.cell 4, hk.cell 5, hk.cell 6, hk.cell 7, hk.cell 8, hk.cell 9, hk, h.2.2.2.2.2.2.2.2.2.2.2.trans hb⟩
theorem sWB (h : w'.cell? ⟨b, 0, none⟩ = some v0 ∧ w'.cell? ⟨b, 1, none⟩ = some v1 ∧ w'.cell? ⟨b, 2, none⟩ = some v2 ∧ w'.cell? ⟨b, 3, none⟩ = some v3 ∧ w'.cell? ⟨b, 4, none⟩ = some v4 ∧ w'.cell? ⟨b, 5, none⟩ = some v5 ∧ w'.cell? ⟨b, 6, none⟩ = some v6 ∧ w'.cell? ⟨b, 7, none⟩ = some v7 ∧ w'.cell? ⟨b, 8, none⟩ = some v8 ∧ w'.cell? ⟨b, 9, none⟩ = some v9 ∧ Blk w' b #[v0, v1, v2, v3, v4, v5, v6, v7, v8, v9] t ∧ Below B w0 w') : Below B w0 w' := h.2.2.2.2.2.2.2.2.2.2.2
end
theorem pre_in {w W : World} {A : Option Addr} {n : Nat} {l : List UInt8} (hl : l.length = n) (hn : n ≤ 1000000) (hr : RdB w.heap.size w A l) (hb : Below w.heap.size w W) : PreB w.heap.size W A n n l :=
  .inr ⟨(hr.keep hb (Nat.le_refl _)).more hb.size, hl, rfl, hn⟩

set_option maxRecDepth 100000 in
set_option maxHeartbeats 2000000 in
theorem packValue_any (A : Option Addr) (n c : Nat) (l : List UInt8) (k x : Int) (s : ByteArray) (w : World) (hl : l.length = n) (hn : n ≤ 100000) (hr : RdB w.heap.size w A l) (hc : n ≤ c) (hg : goodB k x s = true) (h0 : -9223372036854775808 ≤ x) (h1 : x ≤ 9223372036854775807) :
    Calls Try.prog 51 #[.slice A n c, .agg #[.int .i64 k, .int .i64 x, .string s]] w fun e w' => PutR w (l ++ valB k x s.data.toList) e w' := by
  have hG := goodB_in hg
  have HV := Lib.hid (fun W (hb : Below w.heap.size w W) => putValue_any w.heap.size A n n l k x s W (pre_in hl (by omega) hr hb) hb.size (show n ≤ 90000000000 by omega) hG.1 h0 h1 (by have := hG.2; omega))
  clear hg hG h0 h1 hr hl
  go_enter Try.func51, Try.ntmps51
  go_wp2_with fail
  have hC := blk_new w #[.int .i64 k, .int .i64 x, .string s] 31
  have hB := b0 w (.cells #[.int .i64 k, .int .i64 x, .string s] 31)
  generalize w.alloc (.cells #[.int .i64 k, .int .i64 x, .string s] 31) = W at hC hB ⊢
  generalize hb : w.heap.size = b at hC hB HV ⊢
  go_region_held3 (fun w' => w'.cell? ⟨b, 0, none⟩ = some (.int .i64 k) ∧ w'.cell? ⟨b, 1, none⟩ = some (.int .i64 x) ∧ w'.cell? ⟨b, 2, none⟩ = some (.string s) ∧ Blk w' b #[.int .i64 k, .int .i64 x, .string s] 31 ∧ Below b w w')
    (first | assumption | exact sV0 hC hB | exact sV1 (by assumption) (by assumption) (by assumption) (by decide))
    (first
      | (go_at_call 73; ((with_reducible refine (own_any A n c _ hc).mono ?_); rintro e w1 ⟨rfl, rfl⟩))
      | (go_at_call 72; ((with_reducible refine (HV.out _ (sVB (by assumption))).mono ?_); rintro e w2 ⟨⟨A2, n2, c2, rfl, hO2⟩, hb2, ho2⟩)))
  have hfin := sVB (w' := w2) (by assumption)
  go_wp2_with fail
  go_ret
  exact ⟨⟨A2, n2, c2, rfl, hO2.len, (by subst hb; exact hO2.rd), hO2.cap.1⟩, by rw [hb]; exact hfin⟩

end Go.Proofs.Ytokkmofcijfmiab
