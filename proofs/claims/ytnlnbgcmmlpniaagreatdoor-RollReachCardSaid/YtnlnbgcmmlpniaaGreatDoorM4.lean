/-
  WHAT IS PROVED: whether two lists of writes are the same (spinneyref03.Same), for all slices of writes. Conditions: those typed in the theorem. · nothing but plain facts: as definitions, what the walks of layer 5's statements take of package pack's calls on values and writes. The definitions are proved elsewhere, of the code itself. · package pack's calls that put things behind other bytes (Number, Int, Text, Flag, Value, Write, Writes): the document's bytes, and what was handed in stays. Conditions: those typed in each theorem. · package pack's calls that put values and writes behind other bytes (Value, Write, Writes): the document's bytes, and what was handed in stays. Conditions: those typed in each theorem. · plain facts: the steps by which package pack's reader takes a number, a text, a flag come to what the chapter says is taken. No program is spoken of. · package pack's reader, its own small calls (Open, fail, must, take, next, sound): what they answer and leave of what the reader still has. Conditions: those typed in each theorem. · package pack's reader: Number, Int, count, Text, Flag, small: what they answer and leave, as the chapter says. Conditions: those typed in each theorem. · package pack's reader: count, Text, Flag, small: what they answer and leave, as the chapter says. Conditions: those typed in each theorem. · plain facts: the steps by which package pack's reader takes a value come to what the chapter says is taken. No program is spoken of.
-/
import Derived.Test.YtnlnbgcmmlpniaaGreatDoorM2
import Derived.Test.YtnlnbgcmmlpniaaGreatDoorM3
import Derived.Test.YtnlnbgcmmlpniaaGreatDoorM0
import Derived.Test.YtnlnbgcmmlpniaaGreatDoorM1
import Derived.WalkKit
import Derived.LaidEql
import Derived.Laws.BitsAllLaws
namespace Go.Proofs.YtnlnbgcmmlpniaaGreatDoor
open Go.RowKit
attribute [local go_sem ↓] Go.wp_at_zero Go.wp_at_succ

theorem str_ext {a b : ByteArray} (h : a.toList = b.toList) : a = b := by
  rw [ByteArray.toList_eq, ByteArray.toList_eq] at h
  cases a
  cases b
  simp only at h
  congr 1
  exact Array.toList_inj.1 h
theorem wr_neq {x y : Wr} (h : x ≠ y) (W : World) : (binOp .neq 63 (.agg x.cells) (.agg y.cells)).run Tryz.prog W = .ok (.bool true) W := by
  go_simp
  intro h0 h1 h2 h3 h4 h5 h6 h7 h8 h9
  refine h ?_
  have e3 := str_ext h3
  have e6 := str_ext h6
  have e9 := str_ext h9
  cases x
  cases y
  simp only at h0 h1 h2 e3 h4 h5 e6 h7 h8 e9
  simp only [h0, h1, h2, e3, h4, h5, e6, h7, h8, e9]
theorem wr_eq (x : Wr) (W : World) : (binOp .neq 63 (.agg x.cells) (.agg x.cells)).run Tryz.prog W = .ok (.bool false) W := by
  go_simp
open Classical in
/-- The same lists? -/
noncomputable def sameW (l l2 : List Wr) : Bool := decide (l = l2)
theorem sameW_iff (l l2 : List Wr) : sameW l l2 = true ↔ l = l2 := by
  unfold sameW
  simp
theorem sameW_no {l l2 : List Wr} (h : l ≠ l2) : sameW l l2 = false := Bool.eq_false_iff.2 fun e => h ((sameW_iff l l2).1 e)
theorem sameW_yes {l l2 : List Wr} (h : l = l2) : sameW l l2 = true := (sameW_iff l l2).2 h

end Go.Proofs.YtnlnbgcmmlpniaaGreatDoor

namespace Go.Proofs.YtnlnbgcmmlpniaaGreatDoor
open Go.RowKit

def valOf (st : Rest) : (Int × Int × List UInt8) × Rest := match st with
  | none => ((0, 0, []), none)
  | some b => if (takeValB b).2 = 0 then ((0, 0, []), none) else ((takeValB b).1, some (b.drop (takeValB b).2))
abbrev wrNo : Wr := ⟨0, 0, 0, ⟨#[]⟩, 0, 0, ⟨#[]⟩, 0, 0, ⟨#[]⟩⟩
noncomputable def wrOf (st : Rest) : Wr × Rest := match st with
  | none => (wrNo, none)
  | some b => if (takeWrB b).2 = 0 then (wrNo, none) else ((takeWrB b).1, some (b.drop (takeWrB b).2))
noncomputable def wrsOf (st : Rest) (most : Nat) : List Wr × Rest := match st with
  | none => ([], none)
  | some b => if (takeWrsB b most).2 = 0 then ([], none) else ((takeWrsB b most).1, some (b.drop (takeWrsB b most).2))
end Go.Proofs.YtnlnbgcmmlpniaaGreatDoor

namespace Go.Proofs.YtnlnbgcmmlpniaaGreatDoor
open Go.RowKit

theorem PutO.putR {w W : World} {L : List UInt8} {e : Ending} {w' : World} (hB : Below w.heap.size w W) (h : PutO w.heap.size W L e w') : PutR w L e w' := by
  obtain ⟨⟨A, n, c, rfl, hO⟩, hb, _⟩ := h
  exact ⟨⟨A, n, c, rfl, hO.len, hO.rd, hO.cap.1⟩, hB.trans hb⟩
theorem preB_of {w : World} {A : Option Addr} {n : Nat} {l : List UInt8} (hl : l.length = n) (hn : n ≤ 1000000) (hr : RdB w.heap.size w A l) : PreB w.heap.size w A n n l := .inr ⟨hr, hl, rfl, hn⟩

set_option maxRecDepth 100000 in
theorem packNumber_any (A : Option Addr) (n c : Nat) (l : List UInt8) (x : Nat) (w : World) (hl : l.length = n) (hn : n ≤ 100000) (hr : RdB w.heap.size w A l) (hc : n ≤ c) (hx : x < 18446744073709551616) :
    Calls Tryz.prog 77 #[.slice A n c, .int .u64 x] w fun e w' => PutR w (l ++ numB x) e w' := by
  go_enter Tryz.func77, Tryz.ntmps77
  go_wp2_with fail
  refine (own_any A n c w hc).mono ?_
  rintro e w1 ⟨rfl, rfl⟩
  go_wp2_with fail
  refine (putNumber_any w1.heap.size A n n l x w1 (preB_of hl (by omega) hr) (Nat.le_refl _) (by omega) hx).mono ?_
  rintro e w2 hP
  obtain ⟨⟨A2, n2, c2, rfl, hr2⟩, hb2⟩ := PutO.putR (Below.refl _ _) hP
  go_wp2_with fail
  go_ret
  exact ⟨⟨A2, n2, c2, rfl, hr2⟩, hb2⟩

set_option maxRecDepth 100000 in
theorem packText_any (A : Option Addr) (n c : Nat) (l : List UInt8) (s : ByteArray) (w : World) (hl : l.length = n) (hn : n ≤ 100000) (hr : RdB w.heap.size w A l) (hc : n ≤ c) (hs : s.size ≤ 100000) :
    Calls Tryz.prog 40 #[.slice A n c, .string s] w fun e w' => PutR w (l ++ textB s.data.toList) e w' := by
  go_enter Tryz.func40, Tryz.ntmps40
  go_wp2_with fail
  refine (own_any A n c w hc).mono ?_
  rintro e w1 ⟨rfl, rfl⟩
  go_wp2_with fail
  refine (putText_any w1.heap.size A n n l s w1 (preB_of hl (by omega) hr) (Nat.le_refl _) (by omega) (by omega)).mono ?_
  rintro e w2 hP
  obtain ⟨⟨A2, n2, c2, rfl, hr2⟩, hb2⟩ := PutO.putR (Below.refl _ _) hP
  go_wp2_with fail
  go_ret
  exact ⟨⟨A2, n2, c2, rfl, hr2⟩, hb2⟩

end Go.Proofs.YtnlnbgcmmlpniaaGreatDoor

namespace Go.Proofs.YtnlnbgcmmlpniaaGreatDoor
open Go.RowKit

section
variable {W w0 w' w1 : World} {b B : Nat} {v0 v1 v2 : Value} {t : TypeId}
theorem sV0 (h : Blk W b #[v0, v1, v2] t) (hB : Below B w0 W) : W.drew.cell? ⟨b, 0, none⟩ = some v0 ∧ W.drew.cell? ⟨b, 1, none⟩ = some v1 ∧ W.drew.cell? ⟨b, 2, none⟩ = some v2 ∧ Blk W.drew b #[v0, v1, v2] t ∧ Below B w0 W.drew :=
  ⟨h.cell 0, h.cell 1, h.cell 2, h, hB.drew⟩
theorem sV1 (h : w'.cell? ⟨b, 0, none⟩ = some v0 ∧ w'.cell? ⟨b, 1, none⟩ = some v1 ∧ w'.cell? ⟨b, 2, none⟩ = some v2 ∧ Blk w' b #[v0, v1, v2] t ∧ Below B w0 w') (hb : Below B w' w1) (ho : Oth w' w1) (ht : t ≠ 5) :
    w1.cell? ⟨b, 0, none⟩ = some v0 ∧ w1.cell? ⟨b, 1, none⟩ = some v1 ∧ w1.cell? ⟨b, 2, none⟩ = some v2 ∧ Blk w1 b #[v0, v1, v2] t ∧ Below B w0 w1 := by
  have hk := ho.blk ht h.2.2.2.1
  exact ⟨hk.cell 0, hk.cell 1, hk.cell 2, hk, h.2.2.2.2.trans hb⟩
theorem sVB (h : w'.cell? ⟨b, 0, none⟩ = some v0 ∧ w'.cell? ⟨b, 1, none⟩ = some v1 ∧ w'.cell? ⟨b, 2, none⟩ = some v2 ∧ Blk w' b #[v0, v1, v2] t ∧ Below B w0 w') : Below B w0 w' := h.2.2.2.2
end
section
variable {W w0 w' w1 : World} {b B : Nat} {v0 v1 v2 v3 v4 v5 v6 v7 v8 v9 : Value} {t : TypeId}
theorem sW0 (h : Blk W b #[v0, v1, v2, v3, v4, v5, v6, v7, v8, v9] t) (hB : Below B w0 W) : W.drew.cell? ⟨b, 0, none⟩ = some v0 ∧ W.drew.cell? ⟨b, 1, none⟩ = some v1 ∧ W.drew.cell? ⟨b, 2, none⟩ = some v2 ∧ W.drew.cell? ⟨b, 3, none⟩ = some v3 ∧ W.drew.cell? ⟨b, 4, none⟩ = some v4 ∧ W.drew.cell? ⟨b, 5, none⟩ = some v5 ∧ W.drew.cell? ⟨b, 6, none⟩ = some v6 ∧ W.drew.cell? ⟨b, 7, none⟩ = some v7 ∧ W.drew.cell? ⟨b, 8, none⟩ = some v8 ∧ W.drew.cell? ⟨b, 9, none⟩ = some v9 ∧ Blk W.drew b #[v0, v1, v2, v3, v4, v5, v6, v7, v8, v9] t ∧ Below B w0 W.drew :=
  ⟨h.cell 0, h.cell 1, h.cell 2, h.cell 3, h.cell 4, h.cell 5, h.cell 6, h.cell 7, h.cell 8, h.cell 9, h, hB.drew⟩
theorem sW1 (h : w'.cell? ⟨b, 0, none⟩ = some v0 ∧ w'.cell? ⟨b, 1, none⟩ = some v1 ∧ w'.cell? ⟨b, 2, none⟩ = some v2 ∧ w'.cell? ⟨b, 3, none⟩ = some v3 ∧ w'.cell? ⟨b, 4, none⟩ = some v4 ∧ w'.cell? ⟨b, 5, none⟩ = some v5 ∧ w'.cell? ⟨b, 6, none⟩ = some v6 ∧ w'.cell? ⟨b, 7, none⟩ = some v7 ∧ w'.cell? ⟨b, 8, none⟩ = some v8 ∧ w'.cell? ⟨b, 9, none⟩ = some v9 ∧ Blk w' b #[v0, v1, v2, v3, v4, v5, v6, v7, v8, v9] t ∧ Below B w0 w') (hb : Below B w' w1) (ho : Oth w' w1) (ht : t ≠ 5) :
    w1.cell? ⟨b, 0, none⟩ = some v0 ∧ w1.cell? ⟨b, 1, none⟩ = some v1 ∧ w1.cell? ⟨b, 2, none⟩ = some v2 ∧ w1.cell? ⟨b, 3, none⟩ = some v3 ∧ w1.cell? ⟨b, 4, none⟩ = some v4 ∧ w1.cell? ⟨b, 5, none⟩ = some v5 ∧ w1.cell? ⟨b, 6, none⟩ = some v6 ∧ w1.cell? ⟨b, 7, none⟩ = some v7 ∧ w1.cell? ⟨b, 8, none⟩ = some v8 ∧ w1.cell? ⟨b, 9, none⟩ = some v9 ∧ Blk w1 b #[v0, v1, v2, v3, v4, v5, v6, v7, v8, v9] t ∧ Below B w0 w1 := by
  have hk := ho.blk ht h.2.2.2.2.2.2.2.2.2.2.1
  exact ⟨hk.cell 0, hk.cell 1, hk.cell 2, hk.cell 3, hk.cell 4, hk.cell 5, hk.cell 6, hk.cell 7, hk.cell 8, hk.cell 9, hk, h.2.2.2.2.2.2.2.2.2.2.2.trans hb⟩
theorem sWB (h : w'.cell? ⟨b, 0, none⟩ = some v0 ∧ w'.cell? ⟨b, 1, none⟩ = some v1 ∧ w'.cell? ⟨b, 2, none⟩ = some v2 ∧ w'.cell? ⟨b, 3, none⟩ = some v3 ∧ w'.cell? ⟨b, 4, none⟩ = some v4 ∧ w'.cell? ⟨b, 5, none⟩ = some v5 ∧ w'.cell? ⟨b, 6, none⟩ = some v6 ∧ w'.cell? ⟨b, 7, none⟩ = some v7 ∧ w'.cell? ⟨b, 8, none⟩ = some v8 ∧ w'.cell? ⟨b, 9, none⟩ = some v9 ∧ Blk w' b #[v0, v1, v2, v3, v4, v5, v6, v7, v8, v9] t ∧ Below B w0 w') : Below B w0 w' := h.2.2.2.2.2.2.2.2.2.2.2
end
theorem pre_in {w W : World} {A : Option Addr} {n : Nat} {l : List UInt8} (hl : l.length = n) (hn : n ≤ 1000000) (hr : RdB w.heap.size w A l) (hb : Below w.heap.size w W) : PreB w.heap.size W A n n l :=
  .inr ⟨(hr.keep hb (Nat.le_refl _)).more hb.size, hl, rfl, hn⟩

set_option maxRecDepth 100000 in
set_option maxHeartbeats 2000000 in
theorem packValue_any (A : Option Addr) (n c : Nat) (l : List UInt8) (k x : Int) (s : ByteArray) (w : World) (hl : l.length = n) (hn : n ≤ 100000) (hr : RdB w.heap.size w A l) (hc : n ≤ c) (hg : goodB k x s = true) (h0 : -9223372036854775808 ≤ x) (h1 : x ≤ 9223372036854775807) :
    Calls Tryz.prog 75 #[.slice A n c, .agg #[.int .i64 k, .int .i64 x, .string s]] w fun e w' => PutR w (l ++ valB k x s.data.toList) e w' := by
  have hG := goodB_in hg
  have HV := Lib.hid (fun W (hb : Below w.heap.size w W) => putValue_any w.heap.size A n n l k x s W (pre_in hl (by omega) hr hb) hb.size (show n ≤ 90000000000 by omega) hG.1 h0 h1 (by have := hG.2; omega))
  clear hg hG h0 h1 hr hl
  go_enter Tryz.func75, Tryz.ntmps75
  go_wp2_with fail
  have hC := blk_new w #[.int .i64 k, .int .i64 x, .string s] 59
  have hB := b0 w (.cells #[.int .i64 k, .int .i64 x, .string s] 59)
  generalize w.alloc (.cells #[.int .i64 k, .int .i64 x, .string s] 59) = W at hC hB ⊢
  generalize hb : w.heap.size = b at hC hB HV ⊢
  go_region_held3 (fun w' => w'.cell? ⟨b, 0, none⟩ = some (.int .i64 k) ∧ w'.cell? ⟨b, 1, none⟩ = some (.int .i64 x) ∧ w'.cell? ⟨b, 2, none⟩ = some (.string s) ∧ Blk w' b #[.int .i64 k, .int .i64 x, .string s] 59 ∧ Below b w w')
    (first | assumption | exact sV0 hC hB | exact sV1 (by assumption) (by assumption) (by assumption) (by decide))
    (first
      | (go_at_call 80; ((with_reducible refine (own_any A n c _ hc).mono ?_); rintro e w1 ⟨rfl, rfl⟩))
      | (go_at_call 116; ((with_reducible refine (HV.out _ (sVB (by assumption))).mono ?_); rintro e w2 ⟨⟨A2, n2, c2, rfl, hO2⟩, hb2, ho2⟩)))
  have hfin := sVB (w' := w2) (by assumption)
  go_wp2_with fail
  go_ret
  exact ⟨⟨A2, n2, c2, rfl, hO2.len, (by subst hb; exact hO2.rd), hO2.cap.1⟩, by rw [hb]; exact hfin⟩

set_option maxRecDepth 100000 in
set_option maxHeartbeats 4000000 in
theorem packWrite_any (A : Option Addr) (n c : Nat) (l : List UInt8) (x : Wr) (w : World) (hl : l.length = n) (hn : n ≤ 100000) (hr : RdB w.heap.size w A l) (hc : n ≤ c) (hg : x.good = true) (hf : x.fits) :
    Calls Tryz.prog 55 #[.slice A n c, .agg x.cells] w fun e w' => PutR w (l ++ wB x) e w' := by
  have HV := Lib.hid (fun W (hb : Below w.heap.size w W) => putWrite_any w.heap.size A n n l x W (pre_in hl (by omega) hr hb) hb.size (show n ≤ 80000000000 by omega) hg hf)
  clear hg hf hr hl
  obtain ⟨dev, seq, K, ky, ka, na, sa, kb, nb, sb⟩ := x
  go_enter Tryz.func55, Tryz.ntmps55
  go_wp2_with fail
  have hC := blk_new w (wrI dev seq K ky ka na sa kb nb sb) 63
  have hB := b0 w (.cells (wrI dev seq K ky ka na sa kb nb sb) 63)
  generalize w.alloc (.cells (wrI dev seq K ky ka na sa kb nb sb) 63) = W at hC hB ⊢
  generalize hb : w.heap.size = b at hC hB HV ⊢
  go_region_held3 (fun w' => w'.cell? ⟨b, 0, none⟩ = some (.int .i64 dev) ∧ w'.cell? ⟨b, 1, none⟩ = some (.int .i64 seq) ∧ w'.cell? ⟨b, 2, none⟩ = some (.int .i64 K) ∧ w'.cell? ⟨b, 3, none⟩ = some (.string ky) ∧ w'.cell? ⟨b, 4, none⟩ = some (.int .i64 ka) ∧ w'.cell? ⟨b, 5, none⟩ = some (.int .i64 na) ∧ w'.cell? ⟨b, 6, none⟩ = some (.string sa) ∧ w'.cell? ⟨b, 7, none⟩ = some (.int .i64 kb) ∧ w'.cell? ⟨b, 8, none⟩ = some (.int .i64 nb) ∧ w'.cell? ⟨b, 9, none⟩ = some (.string sb) ∧ Blk w' b (wrI dev seq K ky ka na sa kb nb sb) 63 ∧ Below b w w')
    (first | assumption | exact sW0 hC hB | exact sW1 (by assumption) (by assumption) (by assumption) (by decide))
    (first
      | (go_at_call 80; ((with_reducible refine (own_any A n c _ hc).mono ?_); rintro e w1 ⟨rfl, rfl⟩))
      | (go_at_call 98; ((with_reducible refine (HV.out _ (sWB (by assumption))).mono ?_); rintro e w2 ⟨⟨A2, n2, c2, rfl, hO2⟩, hb2, ho2⟩)))
  have hfin := sWB (w' := w2) (by assumption)
  go_wp2_with fail
  go_ret
  exact ⟨⟨A2, n2, c2, rfl, hO2.len, (by subst hb; exact hO2.rd), hO2.cap.1⟩, by rw [hb]; exact hfin⟩

end Go.Proofs.YtnlnbgcmmlpniaaGreatDoor

namespace Go.Proofs.YtnlnbgcmmlpniaaGreatDoor

/-- What a reader has left; none: it has an error. -/
abbrev RestM := Option (List UInt8)
def takeM (st : RestM) (n : Nat) : List UInt8 × RestM := match st with
  | none => ([], none)
  | some b => if n ≤ b.length then (b.take n, some (b.drop n)) else ([], none)
def nextM (st : RestM) : UInt8 × RestM := match st with
  | some (c :: t) => (c, some t)
  | _ => (0, none)
/-- An error, if what is asked doesn't hold. -/
def mustM (h : Bool) (st : RestM) : RestM := if h then st else none
def headOk (d : List UInt8) : Bool := match d with
  | [] => true
  | c :: _ => c != 0
/-- What is left behind a number's bytes. -/
def digM (st : RestM) : List UInt8 × RestM := takeM (mustM (decide ((nextM st).1.toNat ≤ 8)) (nextM st).2) (nextM st).1.toNat
def leftM (st : RestM) (most : Nat) : RestM := mustM (decide (beV (digM st).1 ≤ most)) (mustM (headOk (digM st).1) (digM st).2)
def soundM {α : Type} (z : α) (st : RestM) (x : α) : α := match st with
  | none => z
  | some _ => x
theorem mustM_none (h : Bool) : mustM h none = none := by cases h <;> rfl
theorem takeM_len (st : RestM) (n : Nat) : (takeM st n).1.length ≤ n := by
  cases st with
  | none => exact Nat.zero_le _
  | some b =>
    unfold takeM
    by_cases h : n ≤ b.length
    · simp [h]
    · simp [h]
theorem digM_len (st : RestM) : (digM st).1.length ≤ 8 := by
  by_cases h : (nextM st).1.toNat ≤ 8
  · exact Nat.le_trans (takeM_len _ _) h
  · unfold digM
    rw [show mustM (decide ((nextM st).1.toNat ≤ 8)) (nextM st).2 = none by simp [mustM, h]]
    exact Nat.zero_le _
theorem digM_lt (st : RestM) : beV (digM st).1 < 18446744073709551616 := by
  have h1 := beV_lt (digM st).1
  have h2 := Nat.pow_le_pow_right (show 1 ≤ 256 by omega) (digM_len st)
  rw [pow_eight] at h2
  omega
/-- A number is taken just if it stands there. -/
theorem number_is (st : RestM) (most : Nat) : (soundM 0 (leftM st most) (beV (digM st).1), leftM st most) = (match st with
    | none => (0, none)
    | some b => if (takeNum b most).2 = 0 then (0, none) else ((takeNum b most).1, some (b.drop (takeNum b most).2))) := by
  cases st with
  | none =>
    have e : digM none = ([], none) := by simp [digM, nextM, takeM, mustM_none]
    simp [leftM, e, mustM_none, soundM]
  | some b =>
    cases b with
    | nil =>
      have e : digM (some []) = ([], none) := by simp [digM, nextM, takeM, mustM_none]
      simp [leftM, e, mustM_none, soundM, takeNum]
    | cons c t =>
      simp only [takeNum_cons]
      have hn : nextM (some (c :: t)) = (c, some t) := rfl
      by_cases h8 : 8 < c.toNat
      · have e : digM (some (c :: t)) = ([], none) := by
          unfold digM
          rw [hn]
          have h8' : ¬ c.toNat ≤ 8 := by omega
          simp [mustM, takeM, h8']
        simp [leftM, e, mustM_none, soundM, h8]
      · by_cases hl : t.length < c.toNat
        · have e : digM (some (c :: t)) = ([], none) := by
            unfold digM
            rw [hn]
            have h8' : c.toNat ≤ 8 := by omega
            have hl' : ¬ c.toNat ≤ t.length := by omega
            simp [mustM, takeM, h8', hl']
          simp [leftM, e, mustM_none, soundM, hl]
        · have h8' : c.toNat ≤ 8 := by omega
          have hl' : c.toNat ≤ t.length := by omega
          have e : digM (some (c :: t)) = (t.take c.toNat, some (t.drop c.toNat)) := by
            unfold digM
            rw [hn]
            simp [mustM, takeM, h8', hl']
          by_cases hz : 0 < c.toNat ∧ t.head? = some 0
          · have hh : headOk (t.take c.toNat) = false := by
              obtain ⟨h0, h1⟩ := hz
              cases t with
              | nil => simp at h1
              | cons x r =>
                simp at h1
                subst h1
                obtain ⟨k, hk⟩ : ∃ k, c.toNat = k + 1 := ⟨c.toNat - 1, by omega⟩
                rw [hk]
                rfl
            simp [leftM, e, hh, mustM, soundM, hz]
          · have hh : headOk (t.take c.toNat) = true := by
              cases hc : t.take c.toNat with
              | nil => rfl
              | cons x r =>
                show (x != 0) = true
                simp only [bne_iff_ne, ne_eq]
                intro hx
                subst hx
                refine hz ⟨?_, ?_⟩
                · rcases Nat.eq_zero_or_pos c.toNat with h | h
                  · rw [h] at hc
                    simp at hc
                  · exact h
                · cases t with
                  | nil => simp at hc
                  | cons y q =>
                    obtain ⟨k, hk⟩ : ∃ k, c.toNat = k + 1 := by
                      rcases Nat.eq_zero_or_pos c.toNat with h | h
                      · rw [h] at hc
                        simp at hc
                      · exact ⟨c.toNat - 1, by omega⟩
                    rw [hk, List.take_succ_cons] at hc
                    injection hc with hc _
                    simp [hc]
            have hc : ¬ (8 < c.toNat ∨ t.length < c.toNat ∨ (0 < c.toNat ∧ t.head? = some 0)) := by
              rintro (h | h | h)
              · omega
              · omega
              · exact hz h
            simp only [if_neg hc]
            by_cases hm : most < beV (t.take c.toNat)
            · have hm' : ¬ beV (t.take c.toNat) ≤ most := by omega
              simp [leftM, e, mustM, soundM, hm, hm']
            · have hm' : beV (t.take c.toNat) ≤ most := by omega
              simp only [if_neg hm]
              simp [leftM, e, hh, mustM, soundM, hm', Nat.add_comm 1]
end Go.Proofs.YtnlnbgcmmlpniaaGreatDoor

namespace Go.Proofs.YtnlnbgcmmlpniaaGreatDoor
open Go.RowKit

/-- An error that a reader may have: the sentinel, whose text lies at S, or one of the type 'wrong'. -/
def ErrP (S : Addr) (e : Value) : Prop := e = .iface 231 (.pointer (some S)) ∨ ∃ s : ByteArray, e = .iface 108 (.agg #[.string s, .int .i64 2])
/-- A reader's block: what it still has, or an error. -/
def RdrP (S : Addr) (W : World) (g : Nat) (st : Rest) : Prop := match st with
  | some b => b.length ≤ 1000000 ∧ ∃ s : ByteArray, s.data.toList = b ∧ Blk W g #[.string s, .nilIface] 96
  | none => ∃ e, ErrP S e ∧ Blk W g #[.string ⟨#[]⟩, e] 96
theorem blk_grown {W W' : World} {b : Nat} {cs : Array Value} {t : TypeId} {row : Option Nat} (h : Blk W b cs t) (hg : W.grownBy W' row) (hr : row ≠ some b) : Blk W' b cs t :=
  (hg.block b h.lt (fun e => hr e.symm)).trans h
theorem RdrP.lt {S : Addr} {W : World} {g : Nat} {st : Rest} (h : RdrP S W g st) : g < W.heap.size := by
  cases st with
  | none => obtain ⟨e, _, hb⟩ := h; exact hb.lt
  | some b => obtain ⟨_, s, _, hb⟩ := h; exact hb.lt
theorem RdrP.keep {S : Addr} {W W' : World} {g : Nat} {st : Rest} {row : Option Nat} (h : RdrP S W g st) (hg : W.grownBy W' row) (hr : row ≠ some g) : RdrP S W' g st := by
  cases st with
  | none => obtain ⟨e, he, hb⟩ := h; exact ⟨e, he, blk_grown hb hg hr⟩
  | some b => obtain ⟨hl, s, hs, hb⟩ := h; exact ⟨hl, s, hs, blk_grown hb hg hr⟩
theorem grown_below {W W' : World} (h : Below W.heap.size W W') (row : Option Nat) : W.grownBy W' row := ⟨h.os, h.tape, h.output, h.size, fun k hk _ => h.block k hk⟩
theorem below_grown {B : Nat} {W W' : World} {g : Nat} (h : W.grownBy W' (some g)) (hB : B ≤ g) (hz : B ≤ W.heap.size) : Below B W W' := ⟨h.os, h.tape, h.output, h.size, fun k hk => h.block k (by omega) (by intro e; injection e; omega)⟩
theorem RdrP.below {S : Addr} {W W' : World} {g : Nat} {st : Rest} (h : RdrP S W g st) (hb : Below W.heap.size W W') : RdrP S W' g st := h.keep (row := none) (grown_below hb none) (by simp)
theorem RdrP.str {S : Addr} {W : World} {g : Nat} {st : Rest} (h : RdrP S W g st) : ∃ s, W.cell? ⟨g, 0, none⟩ = some (.string s) := by
  cases st with
  | none => obtain ⟨e, _, hb⟩ := h; exact ⟨_, hb.cell 0⟩
  | some b => obtain ⟨_, s, _, hb⟩ := h; exact ⟨_, hb.cell 0⟩
/-- What the reader's own calls read of the package variables: pack's sentinel alone. -/
def LaidS (S : Addr) (W : World) : Prop := W.cell? ⟨0, 0, none⟩ = some (.iface 231 (.pointer (some S)))
theorem LaidP.s {S : Addr} {W : World} (h : LaidP S W) : LaidS S W := h.2
instance {S : Addr} {W : World} : Coe (LaidP S W) (LaidS S W) := ⟨LaidP.s⟩
theorem LaidS.keep {S : Addr} {W W' : World} (h : LaidS S W) (hb : Below W.heap.size W W') : LaidS S W' := (hb.cell (World.block_lt_of_cell? W _ h)).trans h
theorem LaidP.grown {S : Addr} {W W' : World} {g : Nat} {st : Rest} (h : LaidP S W) (hR : RdrP S W g st) (hg : W.grownBy W' (some g)) : LaidP S W' := by
  obtain ⟨s, hs⟩ := hR.str
  have hne : ∀ k t v, W.cell? ⟨k, 0, none⟩ = some (.iface t v) → some k ≠ some g := by
    intro k t v hk e
    injection e with e
    subst e
    rw [hs] at hk
    injection hk with hk
    cases hk
  exact ⟨hg.cell h.1 (hne _ _ _ h.1), hg.cell h.2 (hne _ _ _ h.2)⟩
theorem LaidS.grown {S : Addr} {W W' : World} {g : Nat} {st : Rest} (h : LaidS S W) (hR : RdrP S W g st) (hg : W.grownBy W' (some g)) : LaidS S W' := by
  obtain ⟨s, hs⟩ := hR.str
  have hne : ∀ k t v, W.cell? ⟨k, 0, none⟩ = some (.iface t v) → some k ≠ some g := by
    intro k t v hk e
    injection e with e
    subst e
    rw [hs] at hk
    injection hk with hk
    cases hk
  exact hg.cell h (hne _ _ _ h)
theorem set_grown {W : World} {g i : Nat} {v : Value} : W.grownBy (W.setCell ⟨g, i, none⟩ v) (some g) :=
  ⟨rfl, rfl, rfl, by simp, fun k _ hk => Below.heap_setCell W ⟨g, i, none⟩ v k (fun e => hk (by rw [e]))⟩
theorem no_off (a b : Nat) : (⟨a, b, none⟩ : Addr) = ⟨a, b, none⟩ := rfl

set_option maxRecDepth 100000 in
/-- A reader over bytes. -/
theorem rOpen_any (S : Addr) (A : Option Addr) (n c : Nat) (l : List UInt8) (w : World) (hl : l.length = n) (hn : n ≤ 1000000) (hr : RdB w.heap.size w A l) :
    Calls Tryz.prog 11 #[.slice A n c] w fun e w' => (∃ g : Nat, e = .returned (.pointer (some ⟨g, 0, none⟩)) ∧ RdrP S w' g (some l) ∧ w.heap.size ≤ g) ∧ Below w.heap.size w w' := by
  have hcv := conv_rd w A n c l hl hr
  go_enter Tryz.func11, Tryz.ntmps11
  go_wp2_with fail
  go_ret
  exact ⟨⟨w.heap.size, rfl, ⟨by omega, ⟨l.toArray⟩, rfl, blk_new w _ _⟩, Nat.le_refl _⟩, b0 w _⟩

theorem errP_nil {S : Addr} {e : Value} (h : ErrP S e) : ∃ t v, e = .iface t v := by
  rcases h with rfl | ⟨s, rfl⟩
  · exact ⟨_, _, rfl⟩
  · exact ⟨_, _, rfl⟩

set_option maxRecDepth 100000 in
/-- An error, if there is none yet. -/
theorem fail_any (S : Addr) (g : Nat) (st : Rest) (e0 : Value) (w : World) (hR : RdrP S w g st) (he : ErrP S e0) :
    Calls Tryz.prog 119 #[.pointer (some ⟨g, 0, none⟩), e0] w fun e w' => e = .returned (.tuple #[]) ∧ RdrP S w' g none ∧ w.grownBy w' (some g) := by
  cases st with
  | none =>
    obtain ⟨e1, he1, hb⟩ := hR
    have c0 := hb.cell 0
    have c1 := hb.cell 1
    rcases he1 with rfl | ⟨s, rfl⟩
    all_goals
      go_enter Tryz.func119, Tryz.ntmps119
      go_wp2_with fail
      go_end0
    · exact ⟨rfl, ⟨_, .inl rfl, hb⟩, World.grownBy.refl _ _⟩
    · exact ⟨rfl, ⟨_, .inr ⟨s, rfl⟩, hb⟩, World.grownBy.refl _ _⟩
  | some b =>
    obtain ⟨hl, s, hs, hb⟩ := hR
    have c0 := hb.cell 0
    have c1 := hb.cell 1
    have f0 := hb.free 0
    have f1 := hb.free 1
    obtain ⟨t1, v1, rfl⟩ := errP_nil he
    go_enter Tryz.func119, Tryz.ntmps119
    go_wp2_with fail
    go_end0
    exact ⟨rfl, ⟨_, he, (hb.set 0 _).set 1 _⟩, set_grown.trans set_grown⟩

set_option maxRecDepth 100000 in
/-- An error, if what is asked doesn't hold. -/
theorem must_any (S : Addr) (g : Nat) (st : Rest) (h : Bool) (why : ByteArray) (w : World) (hR : RdrP S w g st) :
    Calls Tryz.prog 89 #[.pointer (some ⟨g, 0, none⟩), .bool h, .string why] w fun e w' => e = .returned (.tuple #[]) ∧ RdrP S w' g (mustM h st) ∧ w.grownBy w' (some g) := by
  cases h with
  | true =>
    go_enter Tryz.func89, Tryz.ntmps89
    go_wp2_with fail
    go_end0
    exact ⟨rfl, hR, World.grownBy.refl _ _⟩
  | false =>
    go_enter Tryz.func89, Tryz.ntmps89
    go_wp2_with fail
    refine (fail_any S g st _ w hR (.inr ⟨why, rfl⟩)).mono ?_
    rintro e w1 ⟨rfl, hR1, hg1⟩
    go_wp2_with fail
    go_end0
    exact ⟨rfl, hR1, hg1⟩

theorem ext_take (s : ByteArray) (n : Nat) : (s.extract 0 n).data.toList = s.data.toList.take n := by
  rw [ByteArray.data_extract, Array.toList_extract]
  simp
theorem ext_drop (s : ByteArray) (n : Nat) : (s.extract n s.size).data.toList = s.data.toList.drop n := by
  have h : s.size = s.data.toList.length := Array.length_toList.symm
  rw [ByteArray.data_extract, Array.toList_extract, List.extract_eq_take_drop, h]
  exact List.take_of_length_le (by rw [List.length_drop]; exact Nat.le_refl _)

set_option maxRecDepth 100000 in
set_option maxHeartbeats 1000000 in
theorem take_any (S : Addr) (g : Nat) (st : Rest) (n : Nat) (w : World) (hL : LaidS S w) (hR : RdrP S w g st) (hn : n ≤ 9223372036854775807) :
    Calls Tryz.prog 83 #[.pointer (some ⟨g, 0, none⟩), .int .i64 n] w fun e w' => (∃ s : ByteArray, e = .returned (.string s) ∧ s.data.toList = (takeM st n).1) ∧ RdrP S w' g (takeM st n).2 ∧ w.grownBy w' (some g) := by
  have hS : w.cell? ⟨0, 0, none⟩ = some (.iface 231 (.pointer (some S))) := hL
  cases st with
  | none =>
    have HR := Lib.hid hR
    obtain ⟨e1, he1, hb⟩ := hR
    obtain ⟨t1, v1, rfl⟩ := errP_nil he1
    have c0 := hb.cell 0
    have c1 := hb.cell 1
    by_cases h0 : n = 0
    · subst h0
      go_enter Tryz.func83, Tryz.ntmps83
      go_wp2_with fail
      go_ret
      exact ⟨⟨_, rfl, rfl⟩, HR.out, World.grownBy.refl _ _⟩
    · have hpos : (0 : Int) < (n : Int) := by omega
      go_enter Tryz.func83, Tryz.ntmps83
      go_wp2_with fail
      refine (fail_any S g none _ w HR.out (.inl rfl)).mono ?_
      rintro e w1 ⟨rfl, hR1, hg1⟩
      have HR1 := Lib.hid hR1
      obtain ⟨e2, he2, hb2⟩ := hR1
      obtain ⟨t2, v2, rfl⟩ := errP_nil he2
      have d0 := hb2.cell 0
      have d1 := hb2.cell 1
      go_wp2_with fail
      go_ret
      exact ⟨⟨_, rfl, rfl⟩, HR1.out, hg1⟩
  | some b =>
    have HR := Lib.hid hR
    obtain ⟨hl, s, hs, hb⟩ := hR
    have hsz : s.size = b.length := by rw [← hs]; exact Array.length_toList.symm
    have c0 := hb.cell 0
    have c1 := hb.cell 1
    by_cases hle : n ≤ b.length
    · have h1 : (n : Int) ≤ (s.size : Int) := by omega
      have f0 := hb.free 0
      go_enter Tryz.func83, Tryz.ntmps83
      go_wp2_with fail
      go_ret
      have e1 : takeM (some b) n = (b.take n, some (b.drop n)) := if_pos hle
      rw [e1]
      refine ⟨⟨_, rfl, by rw [ext_take, hs]⟩, ⟨by rw [List.length_drop]; omega, _, ?_, hb.set 0 _⟩, set_grown⟩
      rw [← hsz, ext_drop, hs]
    · have h1 : ¬ (n : Int) ≤ (s.size : Int) := by omega
      have e1 : takeM (some b) n = ([], none) := if_neg hle
      rw [e1]
      go_enter Tryz.func83, Tryz.ntmps83
      go_wp2_with fail
      refine (fail_any S g (some b) _ w HR.out (.inl rfl)).mono ?_
      rintro e w1 ⟨rfl, hR1, hg1⟩
      have HR1 := Lib.hid hR1
      obtain ⟨e2, he2, hb2⟩ := hR1
      obtain ⟨t2, v2, rfl⟩ := errP_nil he2
      have d0 := hb2.cell 0
      have d1 := hb2.cell 1
      go_wp2_with fail
      go_ret
      exact ⟨⟨_, rfl, rfl⟩, HR1.out, hg1⟩

set_option maxRecDepth 100000 in
theorem next_any (S : Addr) (g : Nat) (st : Rest) (w : World) (hL : LaidS S w) (hR : RdrP S w g st) :
    Calls Tryz.prog 88 #[.pointer (some ⟨g, 0, none⟩)] w fun e w' => e = .returned (.int .u8 ((nextM st).1.toNat : Int)) ∧ RdrP S w' g (nextM st).2 ∧ w.grownBy w' (some g) := by
  have hT := take_any S g st 1 w hL hR (by omega)
  have hcase : (∃ c t, st = some (c :: t)) ∨ (takeM st 1 = ([], none) ∧ nextM st = (0, none)) := by
    cases st with
    | none => exact .inr ⟨rfl, rfl⟩
    | some b =>
      cases b with
      | nil => exact .inr ⟨rfl, rfl⟩
      | cons c t => exact .inl ⟨c, t, rfl⟩
  rcases hcase with ⟨c, t, rfl⟩ | ⟨e1, e2⟩
  · have e1 : takeM (some (c :: t)) 1 = ([c], some t) := by simp [takeM]
    rw [e1] at hT
    show Calls _ _ _ _ fun e w' => e = .returned (.int .u8 (c.toNat : Int)) ∧ RdrP S w' g (some t) ∧ w.grownBy w' (some g)
    go_enter Tryz.func88, Tryz.ntmps88
    go_wp2_with fail
    refine hT.mono ?_
    rintro e w1 ⟨⟨s, rfl, hs⟩, hR1, hg1⟩
    have hs' : s.data = #[c] := Array.toList_inj.1 (by rw [hs])
    obtain ⟨d⟩ := s
    simp only at hs'
    subst hs'
    go_wp2_with fail
    go_ret
    exact ⟨rfl, hR1, hg1⟩
  · rw [e1] at hT
    rw [e2]
    go_enter Tryz.func88, Tryz.ntmps88
    go_wp2_with fail
    refine hT.mono ?_
    rintro e w1 ⟨⟨s, rfl, hs⟩, hR1, hg1⟩
    have hs' : s.data = #[] := Array.toList_inj.1 (by rw [hs])
    obtain ⟨d⟩ := s
    simp only at hs'
    subst hs'
    go_wp2_with fail
    go_ret
    exact ⟨rfl, hR1, hg1⟩
end Go.Proofs.YtnlnbgcmmlpniaaGreatDoor

namespace Go.Proofs.YtnlnbgcmmlpniaaGreatDoor
open Go.RowKit

set_option maxRecDepth 100000 in
theorem sound64_any (S : Addr) (g : Nat) (st : Rest) (x : Nat) (w : World) (hR : RdrP S w g st) :
    Calls Tryz.prog 90 #[.pointer (some ⟨g, 0, none⟩), .int .u64 x] w fun e w' => e = .returned (.int .u64 ((soundM 0 st x : Nat) : Int)) ∧ w' = w := by
  cases st with
  | none =>
    obtain ⟨e1, he1, hb⟩ := hR
    obtain ⟨t1, v1, rfl⟩ := errP_nil he1
    have c1 := hb.cell 1
    go_enter Tryz.func90, Tryz.ntmps90
    go_wp2_with fail
    go_ret
    exact ⟨rfl, rfl⟩
  | some b =>
    obtain ⟨hl, s, hs, hb⟩ := hR
    have c1 := hb.cell 1
    go_enter Tryz.func90, Tryz.ntmps90
    go_wp2_with fail
    go_ret
    exact ⟨rfl, rfl⟩

theorem ba_get (s : ByteArray) (k : Nat) (h : k < s.size) : s.data.toList[k]? = some s[k] := by
  rw [List.getElem?_eq_getElem (by simpa using h)]
  rfl
theorem byte_ne (c : UInt8) : ((c.toNat : Int) != 0) = (c != 0) := by
  rw [Bool.eq_iff_iff]
  simp only [bne_iff_ne, ne_eq]
  constructor
  · intro h e
    subst e
    exact h rfl
  · intro h e
    exact h (UInt8.toNat_inj.1 (by simpa using e))
set_option maxRecDepth 100000 in
theorem or_byte (a c : Nat) (ha : a * 256 + c < 18446744073709551616) (hc : c < 256) : bits .or .u64 (IntKind.u64.wrap ((a : Int) * 256)) (IntKind.u64.wrap (c : Int)) = ((a * 256 + c : Nat) : Int) := by
  have e : IntKind.u64.wrap ((a : Int) * 256) = ((a * 256 : Nat) : Int) := by
    rw [IntKind.wrap_u64]
    omega
  have e2 : IntKind.u64.wrap (c : Int) = (c : Int) := by
    rw [IntKind.wrap_u64]
    omega
  rw [e, e2, u64_or_nat _ _ (by omega) (by omega)]
  have h := Nat.shiftLeft_add_eq_or_of_lt (i := 8) (b := c) hc a
  simp only [Nat.shiftLeft_eq, Nat.reducePow] at h
  rw [h]
theorem grown_chain {a b c : World} {g : Nat} (h : a.grownBy b (some g)) (k : b.grownBy c (some g)) : a.grownBy c (some g) := h.trans k

set_option maxRecDepth 100000 in
set_option maxHeartbeats 400000 in
theorem rNumber_any (S : Addr) (g : Nat) (st : Rest) (most : Nat) (w : World) (hL : LaidS S w) (hR : RdrP S w g st) (hmost : most < 18446744073709551616) :
    Calls Tryz.prog 46 #[.pointer (some ⟨g, 0, none⟩), .int .u64 most] w fun e w' => e = .returned (.int .u64 ((numOf st most).1 : Nat)) ∧ RdrP S w' g (numOf st most).2 ∧ w.grownBy w' (some g) := by
  have hnum : numOf st most = (soundM 0 (mustM (decide (beV (digM st).1 ≤ most)) (mustM (headOk (digM st).1) (digM st).2)) (beV (digM st).1), mustM (decide (beV (digM st).1 ≤ most)) (mustM (headOk (digM st).1) (digM st).2)) := (number_is st most).symm
  rw [hnum]
  clear hnum
  have hlen := digM_len st
  have hlt := digM_lt st
  have hD : digM st = takeM (mustM (decide ((nextM st).1.toNat ≤ 8)) (nextM st).2) (nextM st).1.toNat := rfl
  have hN := next_any S g st w hL hR
  have HL := Lib.hid (fun W (hg : w.grownBy W (some g)) => hL.grown hR hg)
  generalize digM st = D at hlen hlt hD ⊢
  generalize nextM st = p at hD hN
  obtain ⟨c0, st1⟩ := p
  obtain ⟨d, st3⟩ := D
  dsimp only at hlen hlt hD hN ⊢
  have hc0 := c0.toNat_lt
  have HM := Lib.hid hmost
  have HD := Lib.hid hD
  clear hD hmost hL hR
  go_enter Tryz.func46, Tryz.ntmps46
  go_wp2_with fail
  refine hN.mono ?_
  rintro e w1 ⟨rfl, hR1, hg1⟩
  have hd : decide ((c0.toNat : Int) ≤ 8) = decide (c0.toNat ≤ 8) := decide_eq_decide.2 (by omega)
  go_wp2_with fail
  refine (must_any S g st1 _ _ w1 hR1).mono ?_
  rintro e w2 ⟨rfl, hR2, hg2⟩
  have hG2 := hg1.trans hg2
  have HT := Lib.hid (take_any S g _ c0.toNat w2 (HL.out w2 hG2) hR2 (by omega))
  clear hd hN hg1 hg2 hR1 hR2
  generalize (mustM (decide (c0.toNat ≤ 8)) st1) = st2 at HT HD
  go_wp2_with fail
  refine HT.out.mono ?_
  rintro e w3 ⟨⟨s, rfl, hs⟩, hR3, hg3⟩
  rw [← HD.out] at hs hR3
  dsimp only at hs hR3
  have hG3 := hG2.trans hg3
  clear hG2 hg3 HT HD hc0
  have hsz : s.size = d.length := by rw [← hs]; exact Array.length_toList.symm
  have hstep : ∀ K : Act → World → Prop, True := fun _ => trivial
  clear hstep
  have hcase : (d.isEmpty = true ∧ s.toList.isEmpty = true ∧ headOk d = true) ∨ (∃ h : 0 < s.size, s.toList.isEmpty = false ∧ (((s[0]'h).toNat : Int) != 0) = headOk d) := by
    cases d with
    | nil => exact .inl ⟨rfl, by rw [ByteArray.toList_eq, hs]; rfl, rfl⟩
    | cons c r =>
      have h : 0 < s.size := by rw [hsz]; simp
      refine .inr ⟨h, by rw [ByteArray.toList_eq, hs]; rfl, ?_⟩
      have hg := ba_get s 0 h
      rw [hs] at hg
      have hc : c = s[0] := by injection hg
      rw [← hc]
      exact byte_ne c
  have HS := Lib.hid hs
  have HZ := Lib.hid hsz
  have hs64 : (s.size : Int) ≤ 8 := by omega
  clear hs hsz
  rcases hcase with ⟨-, hE, hO⟩ | ⟨h0, hE, hO⟩
  all_goals
    go_wp2_with fail
    refine (must_any S g _ _ _ w3 hR3).mono ?_
    rintro e w4 ⟨rfl, hR4, hg4⟩
    have hG4 := hG3.trans hg4
    clear hG3 hg4 hR3
    go_wp2_with fail
    go_loopw [7, 30] (fun t u wr => ∃ j : Nat, j ≤ s.size ∧ t = .int .u64 (beV (d.take j) : Nat) ∧ u = .int .i64 j ∧ wr = w4) (fun _ u _ => s.size - (intOf u).toNat)
    case atStart => exact ⟨0, Nat.zero_le _, by simp [beV_nil], rfl, rfl⟩
    case round =>
      obtain ⟨j, hj, rfl, rfl, rfl⟩ := hrel
      by_cases hlt2 : j < s.size
      · have i1 : (0 : Int) ≤ (j : Int) := by omega
        have i2 : (j : Int) < (s.size : Int) := by omega
        have hg : d[j]? = some s[j] := by rw [← HS.out]; exact ba_get s j hlt2
        have hb := beV_take hg
        have hbl := beV_take_lt d (j + 1) (by omega)
        have HV := Lib.hid (or_byte (beV (d.take j)) s[j].toNat (by rw [← hb]; exact hbl) s[j].toNat_lt)
        rw [← hb] at HV
        clear hg hb hbl
        go_wp2_with fail
        exact ⟨⟨j + 1, by omega, by rw [HV.out], by go_num, trivial⟩, by simp [intOf]; omega⟩
      · have i2 : ¬ (j : Int) < (s.size : Int) := by omega
        have e : d.take j = d := List.take_of_length_le (by have := HZ.out; omega)
        rw [e]
        have hm : decide ((beV d : Int) ≤ (most : Int)) = decide (beV d ≤ most) := decide_eq_decide.2 (by omega)
        go_wp2_with fail
        refine (must_any S g _ _ _ _ hR4).mono ?_
        rintro e w5 ⟨rfl, hR5, hg5⟩
        go_wp2_with fail
        refine (sound64_any S g _ _ _ hR5).mono ?_
        rintro e w6 ⟨rfl, rfl⟩
        go_wp2_with fail
        go_ret
        first
          | exact ⟨rfl, hR5, hG4.trans hg5⟩
          | (rw [hO]; exact ⟨rfl, hR5, hG4.trans hg5⟩)

theorem numOf_lt (st : Rest) (most : Nat) : (numOf st most).1 ≤ most ∧ (numOf st most).1 < 18446744073709551616 := by
  cases st with
  | none => exact ⟨Nat.zero_le _, Nat.lt_of_lt_of_le Nat.zero_lt_one (by omega)⟩
  | some b =>
    unfold numOf
    dsimp only
    by_cases h : (takeNum b most).2 = 0
    · rw [if_pos h]
      exact ⟨Nat.zero_le _, Nat.lt_of_lt_of_le Nat.zero_lt_one (by omega)⟩
    · rw [if_neg h]
      have := num_take (show takeNum b most = ((takeNum b most).1, (takeNum b most).2) from rfl) h
      exact ⟨this.1, this.2.1⟩

set_option maxRecDepth 100000 in
/-- The int that stands as a number. -/
theorem unfolded_any (u : Nat) (w : World) (hu : u < 18446744073709551616) :
    Calls Tryz.prog 136 #[.int .u64 u] w fun e w' => e = .returned (.int .i64 (unzig u)) ∧ w' = w := by
  have hn := not_any ((u : Int) / 2) (by omega) (by omega)
  have HN := Lib.hid hn
  by_cases h : u % 2 = 1
  · have g0 : (u : Int) % 2 = 1 := by omega
    have hz : unzig u = -1 - ((u / 2 : Nat) : Int) := if_pos h
    rw [hz]
    clear hn hz
    go_enter Tryz.func136, Tryz.ntmps136
    go_wp2_with fail
    go_ret
    refine ⟨ret_i64 ?_, rfl⟩
    rw [HN.out]
  · have g0 : (u : Int) % 2 = 0 := by omega
    have hz : unzig u = ((u / 2 : Nat) : Int) := if_neg h
    rw [hz]
    clear hn hz
    go_enter Tryz.func136, Tryz.ntmps136
    go_wp2_with fail
    go_ret
    refine ⟨ret_i64 ?_, rfl⟩
    omega

set_option maxRecDepth 100000 in
theorem rInt_any (S : Addr) (g : Nat) (st : Rest) (w : World) (hL : LaidS S w) (hR : RdrP S w g st) :
    Calls Tryz.prog 109 #[.pointer (some ⟨g, 0, none⟩)] w fun e w' => e = .returned (.int .i64 (intOfR st).1) ∧ RdrP S w' g (intOfR st).2 ∧ w.grownBy w' (some g) := by
  have e : intOfR st = (unzig (numOf st 18446744073709551615).1, (numOf st 18446744073709551615).2) := by
    cases st with
    | none => rfl
    | some b =>
      unfold intOfR numOf takeIntB
      dsimp only
      by_cases h : (takeNum b 18446744073709551615).2 = 0
      · rw [if_pos h, if_pos h]
        rfl
      · rw [if_neg h, if_neg h]
  rw [e]
  have hN := rNumber_any S g st 18446744073709551615 w hL hR (by omega)
  have hlt := (numOf_lt st 18446744073709551615).2
  generalize numOf st 18446744073709551615 = p at hN hlt
  have HU := Lib.hid (fun W => unfolded_any p.1 W hlt)
  clear hlt e
  go_enter Tryz.func109, Tryz.ntmps109
  go_wp2_with fail
  refine hN.mono ?_
  rintro e w1 ⟨rfl, hR1, hg1⟩
  go_wp2_with fail
  refine (HU.out w1).mono ?_
  rintro e w2 ⟨rfl, rfl⟩
  go_wp2_with fail
  go_ret
  exact ⟨rfl, hR1, hg1⟩
end Go.Proofs.YtnlnbgcmmlpniaaGreatDoor

namespace Go.Proofs.YtnlnbgcmmlpniaaGreatDoor
open Go.RowKit

theorem text_is (st : Rest) (most : Nat) : takeM (numOf st most).2 (numOf st most).1 = textOf st most := by
  cases st with
  | none => rfl
  | some b =>
    unfold numOf textOf takeTextB
    dsimp only
    by_cases h : (takeNum b most).2 = 0
    · simp [h, takeM]
    · rw [if_neg h]
      have hk := num_take (show takeNum b most = ((takeNum b most).1, (takeNum b most).2) from rfl) h
      by_cases hl : (takeNum b most).1 ≤ b.length - (takeNum b most).2
      · have hl' : (takeNum b most).1 ≤ (b.drop (takeNum b most).2).length := by rw [List.length_drop]; exact hl
        have hn : ¬ b.length - (takeNum b most).2 < (takeNum b most).1 := by omega
        have h0 : ¬ (takeNum b most).2 + (takeNum b most).1 = 0 := by omega
        simp [takeM, h, hl, hn, List.drop_drop]
      · have hn : b.length - (takeNum b most).2 < (takeNum b most).1 := by omega
        simp [takeM, h, hl, hn]
theorem byte_one (c : UInt8) : ((c.toNat : Int) == 1) = (c == 1) := by
  rw [Bool.eq_iff_iff]
  simp only [beq_iff_eq]
  constructor
  · intro h
    exact UInt8.toNat_inj.1 (by show c.toNat = 1; omega)
  · rintro rfl
    rfl
theorem flag_is (st : Rest) : ((((nextM st).1.toNat : Int) == 1), mustM (decide ((nextM st).1.toNat ≤ 1)) (nextM st).2) = flagOf st := by
  cases st with
  | none => rfl
  | some b =>
    cases b with
    | nil => rfl
    | cons c t =>
      show (((c.toNat : Int) == 1), mustM (decide (c.toNat ≤ 1)) (some t)) = _
      rw [byte_one]
      unfold flagOf takeFlagB
      dsimp only
      by_cases h : 1 < c.toNat
      · have h1 : ¬ c.toNat ≤ 1 := by omega
        have h2 : (c == 1) = false := by
          rw [beq_eq_false_iff_ne]
          rintro rfl
          exact absurd h (by decide)
        simp [mustM, h1, h, h2]
      · have h1 : c.toNat ≤ 1 := by omega
        simp [mustM, h1, h]
theorem rclone_any (s : ByteArray) (w : World) (hs : s.size ≤ 281474976710656) :
    Calls Tryz.prog 82 #[.string s] w fun e w' => e = .returned (.string s) ∧ Below w.heap.size w w' := by
  have h := Tryz.stringslite_Clone s w hs
  go_enter Tryz.func82, Tryz.ntmps82
  go_wp2_with fail
  refine h.mono ?_
  rintro e w1 ⟨rfl, hb⟩
  go_wp2_with fail
  go_ret
  exact ⟨rfl, hb⟩

set_option maxRecDepth 100000 in
/-- How many, at most most. -/
theorem count_any (S : Addr) (g : Nat) (st : Rest) (most : Nat) (w : World) (hL : LaidS S w) (hR : RdrP S w g st) (hm : most ≤ 1000000) :
    Calls Tryz.prog 84 #[.pointer (some ⟨g, 0, none⟩), .int .i64 most] w fun e w' => e = .returned (.int .i64 ((numOf st most).1 : Nat)) ∧ RdrP S w' g (numOf st most).2 ∧ w.grownBy w' (some g) := by
  have HL := Lib.hid (fun W (hg : w.grownBy W (some g)) => hL.grown hR hg)
  have hn := (numOf_lt st most).1
  have i0 : (0 : Int) ≤ (most : Int) := by omega
  have hmx : max (most : Int) 0 = (most : Int) := by omega
  have hw1 : IntKind.u64.wrap (most : Int) = (most : Int) := by
    rw [IntKind.wrap_u64]
    omega
  have hw2 : IntKind.i64.wrap ((numOf st most).1 : Int) = ((numOf st most).1 : Int) := by
    rw [IntKind.wrap_i64]
    omega
  go_enter Tryz.func84, Tryz.ntmps84
  go_wp2_with fail
  refine (must_any S g st _ _ w hR).mono ?_
  rintro e w1 ⟨rfl, hR1, hg1⟩
  have hR1' : RdrP S w1 g st := hR1
  go_wp2_with fail
  refine (rNumber_any S g st most w1 (HL.out w1 hg1) hR1' (by omega)).mono ?_
  rintro e w2 ⟨rfl, hR2, hg2⟩
  go_wp2_with fail
  go_ret
  exact ⟨rfl, hR2, hg1.trans hg2⟩

theorem textOf_len (S : Addr) (w : World) (g : Nat) (st : Rest) (most : Nat) (hR : RdrP S w g st) : (textOf st most).1.length ≤ 1000000 := by
  rw [← text_is]
  cases st with
  | none => exact Nat.zero_le _
  | some b =>
    obtain ⟨hl, _⟩ := hR
    have : ∀ (st1 : Rest) (n : Nat), (st1 = none ∨ ∃ k, st1 = some (b.drop k)) → (takeM st1 n).1.length ≤ b.length := by
      rintro st1 n (rfl | ⟨k, rfl⟩)
      · exact Nat.zero_le _
      · unfold takeM
        dsimp only
        by_cases h : n ≤ (b.drop k).length
        · rw [if_pos h, List.length_take, List.length_drop]
          omega
        · rw [if_neg h]
          exact Nat.zero_le _
    refine Nat.le_trans (this _ _ ?_) hl
    unfold numOf
    dsimp only
    by_cases h : (takeNum b most).2 = 0
    · rw [if_pos h]
      exact .inl rfl
    · rw [if_neg h]
      exact .inr ⟨_, rfl⟩

set_option maxRecDepth 100000 in
theorem rText_any (S : Addr) (g : Nat) (st : Rest) (most : Nat) (w : World) (hL : LaidS S w) (hR : RdrP S w g st) (hm : most ≤ 1000000) :
    Calls Tryz.prog 43 #[.pointer (some ⟨g, 0, none⟩), .int .i64 most] w fun e w' => (∃ s : ByteArray, e = .returned (.string s) ∧ s.data.toList = (textOf st most).1) ∧ RdrP S w' g (textOf st most).2 ∧ w.grownBy w' (some g) := by
  have HL := Lib.hid (fun W (hg : w.grownBy W (some g)) => hL.grown hR hg)
  have hsz := textOf_len S w g st most hR
  have hC := count_any S g st most w hL hR hm
  have hn := (numOf_lt st most).1
  rw [← text_is] at hsz ⊢
  generalize numOf st most = p at hC hn hsz ⊢
  clear hL hR
  go_enter Tryz.func43, Tryz.ntmps43
  go_wp2_with fail
  refine hC.mono ?_
  rintro e w1 ⟨rfl, hR1, hg1⟩
  go_wp2_with fail
  refine (take_any S g p.2 p.1 w1 (HL.out w1 hg1) hR1 (by omega)).mono ?_
  rintro e w2 ⟨⟨s, rfl, hs⟩, hR2, hg2⟩
  have hs2 : s.size ≤ 281474976710656 := by
    have : s.size = s.data.toList.length := Array.length_toList.symm
    rw [this, hs]
    omega
  go_wp2_with fail
  refine (rclone_any s w2 hs2).mono ?_
  rintro e w3 ⟨rfl, hb3⟩
  go_wp2_with fail
  go_ret
  exact ⟨⟨s, rfl, hs⟩, hR2.below hb3, (hg1.trans hg2).trans (grown_below hb3 _)⟩

set_option maxRecDepth 100000 in
theorem small_any (S : Addr) (g : Nat) (st : Rest) (w : World) (hL : LaidS S w) (hR : RdrP S w g st) :
    Calls Tryz.prog 99 #[.pointer (some ⟨g, 0, none⟩)] w fun e w' => e = .returned (.int .i64 ((numOf st 9223372036854775807).1 : Nat)) ∧ RdrP S w' g (numOf st 9223372036854775807).2 ∧ w.grownBy w' (some g) := by
  have hN := rNumber_any S g st 9223372036854775807 w hL hR (by omega)
  have hn := (numOf_lt st 9223372036854775807).1
  have hw2 : IntKind.i64.wrap ((numOf st 9223372036854775807).1 : Int) = ((numOf st 9223372036854775807).1 : Int) := by
    rw [IntKind.wrap_i64]
    omega
  generalize numOf st 9223372036854775807 = p at hN hn hw2 ⊢
  have hn2 : (p.1 : Int) ≤ 9223372036854775807 := by omega
  clear hn
  go_enter Tryz.func99, Tryz.ntmps99
  go_wp2_with fail
  refine hN.mono ?_
  rintro e w1 ⟨rfl, hR1, hg1⟩
  go_wp2_with fail
  go_ret
  exact ⟨rfl, hR1, hg1⟩
end Go.Proofs.YtnlnbgcmmlpniaaGreatDoor

namespace Go.Proofs.YtnlnbgcmmlpniaaGreatDoor

/-- A number of at most less. -/
theorem num_most (b : List UInt8) {m M : Nat} (h : m ≤ M) : takeNum b m = if (takeNum b M).2 = 0 then (0, 0) else if (takeNum b M).1 ≤ m then takeNum b M else (0, 0) := by
  cases b with
  | nil => rfl
  | cons c t =>
    rw [takeNum_cons, takeNum_cons]
    by_cases hc : 8 < c.toNat ∨ t.length < c.toNat ∨ (0 < c.toNat ∧ t.head? = some 0)
    · simp only [if_pos hc]
      rfl
    · simp only [if_neg hc]
      by_cases h1 : M < beV (t.take c.toNat)
      · have h2 : m < beV (t.take c.toNat) := by omega
        simp [h1, h2]
      · by_cases h2 : m < beV (t.take c.toNat)
        · have h3 : ¬ beV (t.take c.toNat) ≤ m := by omega
          simp [h1, h2, h3]
        · have h3 : beV (t.take c.toNat) ≤ m := by omega
          simp [h1, h2, h3]
/-- .. as a reader has it. -/
theorem numOf_most (st : Rest) {m M : Nat} (h : m ≤ M) : numOf st m = if (numOf st M).1 ≤ m then numOf st M else (0, none) := by
  cases st with
  | none => exact (if_pos (Nat.zero_le m)).symm
  | some b =>
    unfold numOf
    dsimp only
    rw [num_most b h]
    by_cases h0 : (takeNum b M).2 = 0
    · simp [h0]
    · by_cases h1 : (takeNum b M).1 ≤ m
      · simp [h0, h1]
      · simp [h0, h1]
theorem numOf_none {st : Rest} {m : Nat} (h : (numOf st m).2 = none) : (numOf st m).1 = 0 := by
  cases st with
  | none => rfl
  | some b =>
    revert h
    unfold numOf
    dsimp only
    by_cases h0 : (takeNum b m).2 = 0
    · simp [h0]
    · simp [h0]

abbrev valZ : Int × Int × List UInt8 := (0, 0, [])
/-- What a reader takes of a value, step by step. -/
def valM (st : Rest) : (Int × Int × List UInt8) × Rest :=
  if (numOf st 9223372036854775807).1 = 1 then (soundM valZ (intOfR (numOf st 9223372036854775807).2).2 (1, (intOfR (numOf st 9223372036854775807).2).1, []), (intOfR (numOf st 9223372036854775807).2).2)
  else if (numOf st 9223372036854775807).1 = 2 then (soundM valZ (textOf (numOf st 9223372036854775807).2 40).2 (2, 0, (textOf (numOf st 9223372036854775807).2 40).1), (textOf (numOf st 9223372036854775807).2 40).2)
  else (valZ, mustM (decide ((numOf st 9223372036854775807).1 = 0)) (numOf st 9223372036854775807).2)
theorem val_is (st : Rest) : valM st = valOf st := by
  cases st with
  | none => rfl
  | some b =>
    have hm := numOf_most (some b) (show 2 ≤ 9223372036854775807 by omega)
    have hv : valOf (some b) = if (takeValC (takeNum b 2).1 (takeNum b 2).2 b).2 = 0 then (valZ, none) else ((takeValC (takeNum b 2).1 (takeNum b 2).2 b).1, some (b.drop (takeValC (takeNum b 2).1 (takeNum b 2).2 b).2)) := rfl
    have hn : numOf (some b) 2 = if (takeNum b 2).2 = 0 then (0, none) else ((takeNum b 2).1, some (b.drop (takeNum b 2).2)) := rfl
    rw [hn] at hm
    rw [hv]
    unfold valM
    generalize numOf (some b) 9223372036854775807 = p at hm ⊢
    generalize takeNum b 2 = T at hm ⊢
    clear hv hn
    obtain ⟨k, st1⟩ := p
    obtain ⟨v, q⟩ := T
    dsimp only at hm ⊢
    by_cases hk : k ≤ 2
    · rw [if_pos hk] at hm
      by_cases hq : q = 0
      · rw [if_pos hq] at hm
        injection hm with h1 h2
        subst h1 h2 hq
        simp [takeValC, mustM_none]
      · rw [if_neg hq] at hm
        injection hm with h1 h2
        subst h1 h2
        have hk3 : v = 0 ∨ v = 1 ∨ v = 2 := by omega
        rcases hk3 with rfl | rfl | rfl
        · simp [takeValC, mustM, hq]
        · by_cases hi : (takeIntB (b.drop q)).2 = 0
          · simp [takeValC, hq, intOfR, soundM, hi]
          · simp [takeValC, hq, intOfR, soundM, hi, List.drop_drop]
        · by_cases hi : (takeTextB (b.drop q) 40).2 = 0
          · simp [takeValC, hq, textOf, soundM, hi]
          · simp [takeValC, hq, textOf, soundM, hi, List.drop_drop]
    · rw [if_neg hk] at hm
      by_cases hq : q = 0
      · subst hq
        have h0 : ¬ k = 0 := by omega
        have h1 : ¬ k = 1 := by omega
        have h2 : ¬ k = 2 := by omega
        simp [takeValC, mustM, h0, h1, h2]
      · rw [if_neg hq] at hm
        injection hm with _ h2
        cases h2
end Go.Proofs.YtnlnbgcmmlpniaaGreatDoor
