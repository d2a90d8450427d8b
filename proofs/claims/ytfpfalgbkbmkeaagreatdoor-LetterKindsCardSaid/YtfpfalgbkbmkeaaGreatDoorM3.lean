/-
  WHAT IS PROVED: the document's Good of operations, named opB, for every operation. Condition: the texts are no longer than the form's reach. · words for slices of writes (own work): a slice that reads as a list of writes, nil let in; the document's Good of ids, of writes, of lists of writes. Conditions: those typed in each theorem. · words for slices of writes (own work): a slice that reads as a list of writes, nil let in; the document's Good of lists of writes. Conditions: those typed in each theorem. · the document's bytes of good writes, of lists of them (spinneyref05.Writes). Conditions: those typed in each theorem. · a slice of bytes cut off at its front, at its end, at both, as one word (own work); over any program that bears the types named. · the document's taking of ints, texts and flags from bytes (spinneyref05), for all bytes. Conditions: those typed in each theorem. · the document's taking of values from bytes (spinneyref05.TakeValue), for all bytes. Conditions: those typed in the theorem.
-/
import Derived.Test.YtfpfalgbkbmkeaaGreatDoorM2
import Derived.Test.YtfpfalgbkbmkeaaGreatDoorM1
import Derived.Test.YtfpfalgbkbmkeaaGreatDoorM0
namespace Go.Proofs.YtfpfalgbkbmkeaaGreatDoor
open Go.RowKit

/-- An operation as a value. -/
abbrev opV (K : Int) (ky : ByteArray) (ka na : Int) (sa : ByteArray) (kb nb : Int) (sb : ByteArray) : Value :=
  .agg #[.int .i64 K, .string ky, .int .i64 ka, .int .i64 na, .string sa, .int .i64 kb, .int .i64 nb, .string sb]
/-- .. and as cells. -/
abbrev opC (K : Int) (ky : ByteArray) (ka na : Int) (sa : ByteArray) (kb nb : Int) (sb : ByteArray) : Array Value :=
  #[.int .i64 K, .string ky, .int .i64 ka, .int .i64 na, .string sa, .int .i64 kb, .int .i64 nb, .string sb]
/-- Is an operation good? -/
def opB (K : Int) (ky : ByteArray) (ka na : Int) (sa : ByteArray) (kb nb : Int) (sb : ByteArray) : Bool :=
  keyB ky.data.toList && goodB ka na sa && goodB kb nb sb && decide ((K = 1 ∧ ka ≠ 0 ∧ kb = 0) ∨ (K = 2 ∧ ka = 0 ∧ kb = 0) ∨ (K = 3 ∧ ka = 1 ∧ kb = 0) ∨ K = 4)

set_option maxHeartbeats 4000000 in
theorem refOpGood_any (K ka na kb nb : Int) (ky sa sb : ByteArray) (w : World) (hk : ky.size ≤ maxLen) (ha : sa.size ≤ maxLen) (hb : sb.size ≤ maxLen) :
    Calls Tryz.prog 135 #[opV K ky ka na sa kb nb sb] w fun e w' => e = .returned (.bool (opB K ky ka na sa kb nb sb)) ∧ Below w.heap.size w w' := by
  go_enter Tryz.func135, Tryz.ntmps135
  go_wp2_with fail
  have hC := Lib.hid (blk_new w (opC K ky ka na sa kb nb sb) 53)
  have hB := b0 w (.cells (opC K ky ka na sa kb nb sb) 53)
  generalize w.alloc (.cells (opC K ky ka na sa kb nb sb) 53) = W at hC hB ⊢
  obtain ⟨d0, d1, d2, d3, d4, d5, d6, d7, d8⟩ := hC.out.c8
  refine (refKey_any _ _ hk).mono ?_
  rintro e w2 ⟨rfl, rfl⟩
  cases gk : keyB ky.data.toList
  · have R : Hid (opB K ky ka na sa kb nb sb = false) := by show _ = _; unfold opB; rw [gk]; rfl
    clear gk
    go_wp2_with fail
    go_ret
    exact ⟨ret_bool R.out.symm, hB⟩
  · have Gk := Lib.hid gk
    clear gk
    go_wp2_with fail
    refine (refGood_any _ _ _ _ (by assumption)).mono ?_
    rintro e w2 ⟨rfl, hb2⟩
    replace hB := bt hB hb2
    replace hC := Lib.hid (hC.out.keep hb2)
    clear d0 d1 d2 d3 d4 d5 d6 d7 d8
    obtain ⟨d0, d1, d2, d3, d4, d5, d6, d7, d8⟩ := hC.out.c8
    cases ga : goodB ka na sa
    · have R : Hid (opB K ky ka na sa kb nb sb = false) := by show _ = _; unfold opB; rw [Gk.out, ga]; rfl
      clear ga
      go_wp2_with fail
      go_ret
      exact ⟨ret_bool R.out.symm, hB⟩
    · have Ga := Lib.hid ga
      clear ga
      go_wp2_with fail
      refine (refGood_any _ _ _ _ (by assumption)).mono ?_
      rintro e w3 ⟨rfl, hb3⟩
      replace hB := bt hB hb3
      replace hC := Lib.hid (hC.out.keep hb3)
      clear d0 d1 d2 d3 d4 d5 d6 d7 d8
      obtain ⟨d0, d1, d2, d3, d4, d5, d6, d7, d8⟩ := hC.out.c8
      cases gb : goodB kb nb sb
      · have R : Hid (opB K ky ka na sa kb nb sb = false) := by show _ = _; unfold opB; rw [Gk.out, Ga.out, gb]; rfl
        clear gb
        go_wp2_with fail
        go_ret
        exact ⟨ret_bool R.out.symm, hB⟩
      · have R : Hid (opB K ky ka na sa kb nb sb = decide ((K = 1 ∧ ka ≠ 0 ∧ kb = 0) ∨ (K = 2 ∧ ka = 0 ∧ kb = 0) ∨ (K = 3 ∧ ka = 1 ∧ kb = 0) ∨ K = 4)) := by show _ = _; unfold opB; rw [Gk.out, Ga.out, gb]; rfl
        clear gb
        go_wp2_with fail
        go_quiet (fail)
        go_wp2_with fail
        all_goals go_ret
        all_goals refine ⟨ret_bool ?_, hB.trans ⟨rfl, rfl, rfl, Nat.le_refl _, fun _ _ => rfl⟩⟩
        all_goals rw [R.out, Bool.eq_iff_iff]
        all_goals simp only [Bool.and_eq_true, decide_eq_true_eq, beq_iff_eq, beq_eq_false_iff_ne, bne_iff_ne, Bool.false_eq_true, false_iff] at *
        all_goals omega
end Go.Proofs.YtfpfalgbkbmkeaaGreatDoor

namespace Go.Proofs.YtfpfalgbkbmkeaaGreatDoor
open Go.RowKit

/-- A write's ten cells, as a value. -/
abbrev wrI (dev seq K : Int) (ky : ByteArray) (ka na : Int) (sa : ByteArray) (kb nb : Int) (sb : ByteArray) : Array Value :=
  #[.int .i64 dev, .int .i64 seq, .int .i64 K, .string ky, .int .i64 ka, .int .i64 na, .string sa, .int .i64 kb, .int .i64 nb, .string sb]
/-- Is it good? -/
def idB (dev seq : Int) : Bool := decide (1 ≤ dev ∧ dev ≤ 11 ∧ 1 ≤ seq ∧ seq ≤ 40)
def wrGoodB (dev seq K : Int) (ky : ByteArray) (ka na : Int) (sa : ByteArray) (kb nb : Int) (sb : ByteArray) : Bool := idB dev seq && opB K ky ka na sa kb nb sb

set_option maxHeartbeats 1000000 in
theorem refGoodId_any (dev seq : Int) (w : World) :
    Calls Tryz.prog 134 #[.agg #[.int .i64 dev, .int .i64 seq]] w fun e w' => e = .returned (.bool (idB dev seq)) ∧ Below w.heap.size w w' := by
  go_enter Tryz.func134, Tryz.ntmps134
  go_wp2
  all_goals go_ret
  all_goals refine ⟨ret_bool ?_, b0 _ _⟩
  all_goals unfold idB
  all_goals rw [Bool.eq_iff_iff]
  all_goals simp only [decide_eq_true_eq, Bool.false_eq_true, false_iff] at *
  all_goals omega

theorem blk_c10 {W : World} {b : Nat} {v0 v1 v2 v3 v4 v5 v6 v7 v8 v9 : Value} {t : TypeId} (h : Blk W b #[v0, v1, v2, v3, v4, v5, v6, v7, v8, v9] t) :
    W.cell? ⟨b, 0, none⟩ = some v0 ∧ W.cell? ⟨b, 1, none⟩ = some v1 ∧ W.cell? ⟨b, 2, none⟩ = some v2 ∧ W.cell? ⟨b, 3, none⟩ = some v3 ∧ W.cell? ⟨b, 4, none⟩ = some v4 ∧ W.cell? ⟨b, 5, none⟩ = some v5 ∧ W.cell? ⟨b, 6, none⟩ = some v6 ∧ W.cell? ⟨b, 7, none⟩ = some v7 ∧ W.cell? ⟨b, 8, none⟩ = some v8 ∧ W.cell? ⟨b, 9, none⟩ = some v9 ∧ b < W.heap.size :=
  ⟨h.cell 0, h.cell 1, h.cell 2, h.cell 3, h.cell 4, h.cell 5, h.cell 6, h.cell 7, h.cell 8, h.cell 9, h.lt⟩

set_option maxHeartbeats 2000000 in
theorem refWrGood_any (dev seq K ka na kb nb : Int) (ky sa sb : ByteArray) (w : World) (hk : ky.size ≤ maxLen) (ha : sa.size ≤ maxLen) (hb : sb.size ≤ maxLen) :
    Calls Tryz.prog 78 #[.agg (wrI dev seq K ky ka na sa kb nb sb)] w fun e w' => e = .returned (.bool (wrGoodB dev seq K ky ka na sa kb nb sb)) ∧ Below w.heap.size w w' := by
  go_enter Tryz.func78, Tryz.ntmps78
  go_wp2_with fail
  have hC := Lib.hid (blk_new w (wrI dev seq K ky ka na sa kb nb sb) 55)
  have hB := b0 w (.cells (wrI dev seq K ky ka na sa kb nb sb) 55)
  generalize w.alloc (.cells (wrI dev seq K ky ka na sa kb nb sb) 55) = W at hC hB ⊢
  refine (refGoodId_any _ _ _).mono ?_
  rintro e w1 ⟨rfl, hb1⟩
  replace hB := bt hB hb1
  replace hC := Lib.hid (hC.out.keep hb1)
  clear hb1
  obtain ⟨c0, c1, c2, c3, c4, c5, c6, c7, c8, c9, c10⟩ := blk_c10 hC.out
  cases gi : idB dev seq
  · have R : Hid (wrGoodB dev seq K ky ka na sa kb nb sb = false) := by show _ = _; unfold wrGoodB; rw [gi]; rfl
    clear gi
    go_wp2_with fail
    go_ret
    exact ⟨ret_bool R.out.symm, hB⟩
  · have R : Hid (wrGoodB dev seq K ky ka na sa kb nb sb = opB K ky ka na sa kb nb sb) := by show _ = _; unfold wrGoodB; rw [gi]; rfl
    clear gi
    go_wp2_with fail
    refine (refOpGood_any _ _ _ _ _ _ _ _ _ hk ha hb).mono ?_
    rintro e w2 ⟨rfl, hb2⟩
    replace hB := bt hB hb2
    go_wp2_with fail
    go_ret
    exact ⟨ret_bool R.out.symm, hB⟩
end Go.Proofs.YtfpfalgbkbmkeaaGreatDoor

namespace Go.Proofs.YtfpfalgbkbmkeaaGreatDoor
open Go.RowKit
attribute [local go_sem ↓] Go.wp_at_zero Go.wp_at_succ

/-- A write. -/
structure Wr where
  dev : Int
  seq : Int
  K : Int
  ky : ByteArray
  ka : Int
  na : Int
  sa : ByteArray
  kb : Int
  nb : Int
  sb : ByteArray
abbrev Wr.cells (x : Wr) : Array Value := wrI x.dev x.seq x.K x.ky x.ka x.na x.sa x.kb x.nb x.sb
def Wr.good (x : Wr) : Bool := wrGoodB x.dev x.seq x.K x.ky x.ka x.na x.sa x.kb x.nb x.sb
/-- Its texts are no longer than the form's reach, its numbers are of 64 bits. -/
def Wr.fits (x : Wr) : Prop := x.ky.size ≤ maxLen ∧ x.sa.size ≤ maxLen ∧ x.sb.size ≤ maxLen ∧ (-9223372036854775808 ≤ x.na ∧ x.na ≤ 9223372036854775807) ∧ (-9223372036854775808 ≤ x.nb ∧ x.nb ≤ 9223372036854775807)
/-- The slice at A reads as the writes l, in blocks below B. -/
def RdW (B : Nat) (W : World) (A : Option Addr) (l : List Wr) : Prop :=
  ∀ k x, l[k]? = some x → ∃ ad, A = some ad ∧ ad.block < B ∧ ∀ j v, x.cells[j]? = some v → W.cell? (ad.add (k * 10 + j)) = some v
theorem RdW.nil (B : Nat) (W : World) (A : Option Addr) : RdW B W A [] := fun k x h => by simp at h
theorem RdW.keep {B C : Nat} {W W' : World} {A : Option Addr} {l : List Wr} (h : RdW B W A l) (hb : Below C W W') (hBC : B ≤ C) : RdW B W' A l := by
  intro k x hx
  obtain ⟨ad, hA, hl, hc⟩ := h k x hx
  exact ⟨ad, hA, hl, fun j v hv => (hb.cell (by rw [add_block]; omega)).trans (hc j v hv)⟩
theorem RdW.more {B C : Nat} {W : World} {A : Option Addr} {l : List Wr} (h : RdW B W A l) (hBC : B ≤ C) : RdW C W A l := by
  intro k x hx
  obtain ⟨ad, hA, hl, hc⟩ := h k x hx
  exact ⟨ad, hA, by omega, hc⟩
theorem RdW.drew_ {B : Nat} {W : World} {A : Option Addr} {l : List Wr} (h : RdW B W A l) : RdW B W.drew A l := h
theorem RdW.at_ {B : Nat} {W : World} {A : Option Addr} {l : List Wr} (h : RdW B W A l) {k : Nat} (hk : k < l.length) : ∃ ad, A = some ad ∧ ad.block < B ∧ ∀ j v, (l[k]).cells[j]? = some v → W.cell? (ad.add (k * 10 + j)) = some v :=
  h k _ (List.getElem?_eq_getElem hk)

theorem add_at (a : Addr) (i j : Nat) : a.add (i + (j + 1)) = ⟨(a.add i).block, (a.add i).off + (j + 1), none⟩ := by
  rw [← add_add', Addr.add, if_neg (by omega)]
/-- A write's ten cells, as a load asks for them. -/
theorem wr_cells {W : World} {ad : Addr} {k : Nat} {x : Wr} (hc : ∀ j v, x.cells[j]? = some v → W.cell? (ad.add (k * 10 + j)) = some v) :
    W.cell? (ad.add (k * 10)) = some (.int .i64 x.dev) ∧ W.cell? ⟨(ad.add (k * 10)).block, (ad.add (k * 10)).off + 1, none⟩ = some (.int .i64 x.seq) ∧ W.cell? ⟨(ad.add (k * 10)).block, (ad.add (k * 10)).off + 2, none⟩ = some (.int .i64 x.K) ∧ W.cell? ⟨(ad.add (k * 10)).block, (ad.add (k * 10)).off + 3, none⟩ = some (.string x.ky) ∧
    W.cell? ⟨(ad.add (k * 10)).block, (ad.add (k * 10)).off + 4, none⟩ = some (.int .i64 x.ka) ∧ W.cell? ⟨(ad.add (k * 10)).block, (ad.add (k * 10)).off + 5, none⟩ = some (.int .i64 x.na) ∧ W.cell? ⟨(ad.add (k * 10)).block, (ad.add (k * 10)).off + 6, none⟩ = some (.string x.sa) ∧
    W.cell? ⟨(ad.add (k * 10)).block, (ad.add (k * 10)).off + 7, none⟩ = some (.int .i64 x.kb) ∧ W.cell? ⟨(ad.add (k * 10)).block, (ad.add (k * 10)).off + 8, none⟩ = some (.int .i64 x.nb) ∧ W.cell? ⟨(ad.add (k * 10)).block, (ad.add (k * 10)).off + 9, none⟩ = some (.string x.sb) := by
  have h : ∀ j v, x.cells[j + 1]? = some v → W.cell? ⟨(ad.add (k * 10)).block, (ad.add (k * 10)).off + (j + 1), none⟩ = some v := fun j v hv => by
    rw [← add_at]
    exact hc (j + 1) v hv
  exact ⟨hc 0 _ rfl, h 0 _ rfl, h 1 _ rfl, h 2 _ rfl, h 3 _ rfl, h 4 _ rfl, h 5 _ rfl, h 6 _ rfl, h 7 _ rfl, h 8 _ rfl⟩

def goodAll (l : List Wr) : Bool := l.all Wr.good

set_option maxRecDepth 100000 in
set_option maxHeartbeats 4000000 in
theorem refGoodAll_any {B : Nat} (A : Option Addr) (n c : Nat) (l : List Wr) (w : World) (hn : l.length = n) (hr : RdW B w A l) (hB : B ≤ w.heap.size) (hm : n ≤ maxLen) (hf : ∀ x, x ∈ l → x.fits) :
    Calls Tryz.prog 30 #[.slice A n c] w fun e w' => e = .returned (.bool (goodAll l)) ∧ Below w.heap.size w w' := by
  have HN := Lib.hid hn
  have HR := Lib.hid (fun W hb => hr.keep (W' := W) hb hB)
  unfold maxLen at hm
  clear hn hr
  go_enter Tryz.func30, Tryz.ntmps30
  go_wp2_with fail
  go_loopw [6] (fun i wr => ∃ k : Nat, k ≤ n ∧ i = .int .i64 k ∧ Hid (∀ x, x ∈ l.take k → x.good = true) ∧ Below w.heap.size w wr) (fun i _ => n - (intOf i).toNat)
  case atStart => exact ⟨0, Nat.zero_le _, rfl, fun x hx => by simp at hx, Below.refl _ _⟩
  case round =>
    obtain ⟨k, hk, rfl, hA, hW⟩ := hrel
    by_cases hlt : k < n
    · obtain ⟨x, hx⟩ : ∃ x, l[k]? = some x := ⟨_, List.getElem?_eq_getElem (show k < l.length by have := HN.out; omega)⟩
      obtain ⟨ad, rfl, _, hc⟩ := HR.out wr hW k x hx
      have i1 : (0 : Int) ≤ (k : Int) := by omega
      have i2 : (k : Int) < (n : Int) := by omega
      have HX := Lib.hid hx
      have hfx := hf x (List.mem_of_getElem? hx)
      clear hx
      obtain ⟨c0, c1, c2, c3, c4, c5, c6, c7, c8, c9⟩ := wr_cells hc
      clear hc
      have hG := fun W => refWrGood_any x.dev x.seq x.K x.ka x.na x.kb x.nb x.ky x.sa x.sb W hfx.1 hfx.2.1 hfx.2.2.1
      have HG := Lib.hid hG
      clear hG
      go_wp2_with fail
      refine (HG.out _).mono ?_
      rintro e w2 ⟨rfl, hb2⟩
      replace hW := bt hW hb2
      cases hg : wrGoodB x.dev x.seq x.K x.ky x.ka x.na x.sa x.kb x.nb x.sb
      · have R : Hid (goodAll l = false) := by
          show _ = _
          unfold goodAll
          rw [Bool.eq_false_iff]
          intro h
          rw [List.all_eq_true] at h
          have := h x (List.mem_of_getElem? HX.out)
          unfold Wr.good at this
          rw [hg] at this
          cases this
        clear hg
        go_wp2_with fail
        go_ret
        exact ⟨ret_bool R.out.symm, hW⟩
      · have HA2 : Hid (∀ y, y ∈ l.take (k + 1) → y.good = true) := fun y hy => by
          rw [List.take_add_one, HX.out] at hy
          rcases List.mem_append.1 hy with h | h
          · exact hA.out y h
          · have e : y = x := by simpa using h
            rw [e]
            exact hg
        clear hg hA
        go_wp2_with fail
        go_roundw
        case rel => exact ⟨k + 1, by omega, by go_num, HA2, hW⟩
        case measure => simp [intOf]; omega
    · have hq : ¬ (k : Int) < (n : Int) := by omega
      have R : Hid (goodAll l = true) := by
        show _ = _
        unfold goodAll
        rw [List.all_eq_true]
        intro x hx
        refine hA.out x ?_
        rw [List.take_of_length_le (by have := HN.out; omega)]
        exact hx
      clear hA
      go_wp2_with fail
      go_ret
      exact ⟨ret_bool R.out.symm, hW⟩
end Go.Proofs.YtfpfalgbkbmkeaaGreatDoor

namespace Go.Proofs.YtfpfalgbkbmkeaaGreatDoor
open Go.RowKit
attribute [local go_sem ↓] Go.wp_at_zero Go.wp_at_succ

/-- A write's bytes; a list's. -/
def wB (x : Wr) : List UInt8 := wrB x.dev.toNat x.seq.toNat x.K.toNat x.ky.data.toList x.ka x.na x.sa.data.toList x.kb x.nb x.sb.data.toList
def wsB (l : List Wr) : List UInt8 := numB l.length ++ l.flatMap wB
theorem goodB_in {k n : Int} {s : ByteArray} (h : goodB k n s = true) : (k = 0 ∨ k = 1 ∨ k = 2) ∧ s.size ≤ 40 := by
  unfold goodB at h
  rw [decide_eq_true_eq] at h
  omega
theorem good_in {x : Wr} (h : x.good = true) : (1 ≤ x.dev ∧ x.dev ≤ 11) ∧ (1 ≤ x.seq ∧ x.seq ≤ 40) ∧ (1 ≤ x.K ∧ x.K ≤ 4) ∧ x.ky.size ≤ 20 ∧ ((x.ka = 0 ∨ x.ka = 1 ∨ x.ka = 2) ∧ x.sa.size ≤ 40) ∧ ((x.kb = 0 ∨ x.kb = 1 ∨ x.kb = 2) ∧ x.sb.size ≤ 40) := by
  unfold Wr.good wrGoodB idB opB at h
  simp only [Bool.and_eq_true, decide_eq_true_eq] at h
  obtain ⟨h1, ⟨⟨h2, h3⟩, h4⟩, h5⟩ := h
  have h6 := (keyB_all h2).2.2
  have h7 : x.ky.data.toList.length = x.ky.size := Array.length_toList
  refine ⟨by omega, by omega, by omega, by omega, goodB_in h3, goodB_in h4⟩
theorem wB_small {x : Wr} (h : x.good = true) (hf : x.fits) : (wB x).length ≤ 5000000 := by
  obtain ⟨h1, h2, h3, h4, h5, h6⟩ := good_in h
  obtain ⟨_, _, _, f1, f2⟩ := hf
  unfold wB wrB
  simp only [List.length_append]
  have a1 := numB_small (n := x.dev.toNat) (by omega)
  have a2 := numB_small (n := x.seq.toNat) (by omega)
  have a3 := numB_small (n := x.K.toNat) (by omega)
  have a4 := textB_small (s := x.ky) (by omega)
  have a5 := valB_small (s := x.sa) h5.1 f1.1 f1.2 (by omega)
  have a6 := valB_small (s := x.sb) h6.1 f2.1 f2.2 (by omega)
  omega
theorem refPWr_any (x : Wr) (h : x.good = true) (hf : x.fits) (w : World) :
    Calls Tryz.prog 116 #[.agg x.cells] w fun e w' => (∃ (A : Option Addr) (m c : Nat), e = .returned (.slice A m c) ∧ OwnB w.heap.size w' A m c (wB x) ∧ m ≤ 5000000) ∧ Below w.heap.size w w' := by
  obtain ⟨h1, h2, h3, h4, h5, h6⟩ := good_in h
  obtain ⟨_, _, _, f1, f2⟩ := hf
  have hs := wB_small h ⟨by unfold maxLen; omega, by unfold maxLen; omega, by unfold maxLen; omega, f1, f2⟩
  have k := refPWrite_any x.dev.toNat x.seq.toNat x.K.toNat x.ky x.ka x.na x.sa x.kb x.nb x.sb w (by omega) (by omega) (by omega) (by omega) h5.1 f1.1 f1.2 (by omega) h6.1 f2.1 f2.2 (by omega)
  rw [show wrC x.dev.toNat x.seq.toNat x.K.toNat x.ky x.ka x.na x.sa x.kb x.nb x.sb = x.cells by
    show (#[_, _, _, _, _, _, _, _, _, _] : Array Value) = #[_, _, _, _, _, _, _, _, _, _]
    rw [Int.toNat_of_nonneg (by omega), Int.toNat_of_nonneg (by omega), Int.toNat_of_nonneg (by omega)]] at k
  exact k.mono fun _ _ ⟨⟨A, m, c, he, hO⟩, hb⟩ => ⟨⟨A, m, c, he, hO, by have := hO.len; unfold wB at hs; omega⟩, hb⟩

set_option maxRecDepth 100000 in
set_option maxHeartbeats 4000000 in
theorem refPWrites_any {B : Nat} (A : Option Addr) (n c : Nat) (l : List Wr) (w : World) (hn : l.length = n) (hr : RdW B w A l) (hB : B ≤ w.heap.size) (hm : n ≤ 1000) (hf : ∀ x, x ∈ l → x.fits ∧ x.good = true) :
    Calls Tryz.prog 64 #[.slice A n c] w fun e w' => PutP w (wsB l) e w' := by
  obtain ⟨i0, hi0, hz0, hz1, hz2⟩ := info_parts byt_info
  have HN := Lib.hid hn
  have HR := Lib.hid (fun W hb => hr.keep (W' := W) hb hB)
  have wn : IntKind.u64.wrap (n : Int) = (n : Int) := wrap_size (by omega)
  clear hn hr
  go_enter Tryz.func64, Tryz.ntmps64
  go_wp2_with fail
  refine (refNumber_b n _ hm).mono ?_
  rintro e w1 ⟨⟨A1, m1, c1, rfl, hO1, hm1⟩, hb1⟩
  go_wp2_with fail
  go_loopw [3, 11] (fun out i wr => ∃ (k : Nat) (A3 : Option Addr) (n3 c3 : Nat), k ≤ n ∧ i = .int .i64 k ∧ out = .slice A3 n3 c3 ∧ n3 ≤ 9 + 5000000 * k ∧ OwnB w.heap.size wr A3 n3 c3 (numB n ++ (l.take k).flatMap wB) ∧ Below w.heap.size w wr) (fun _ i _ => n - (intOf i).toNat)
  case atStart => exact ⟨0, A1, m1, c1, Nat.zero_le _, rfl, rfl, by omega, by simpa using hO1, hb1⟩
  case round =>
    clear hO1 hb1 hm1
    obtain ⟨k, A3, n3, d3, hk, rfl, rfl, hn3, hO, hW⟩ := hrel
    by_cases hlt : k < n
    · obtain ⟨x, hx⟩ : ∃ x, l[k]? = some x := ⟨_, List.getElem?_eq_getElem (show k < l.length by have := HN.out; omega)⟩
      obtain ⟨ad, rfl, _, hc⟩ := HR.out wr hW k x hx
      have i1 : (0 : Int) ≤ (k : Int) := by omega
      have i2 : (k : Int) < (n : Int) := by omega
      have HX := Lib.hid hx
      have hfx := hf x (List.mem_of_getElem? hx)
      have HF := Lib.hid hfx
      clear hx hfx
      obtain ⟨c0, c1, c2, c3, c4, c5, c6, c7, c8, c9⟩ := wr_cells hc
      clear hc
      have hE : numB n ++ (l.take k).flatMap wB ++ wB x = numB n ++ (l.take (k + 1)).flatMap wB := by
        rw [List.take_add_one, HX.out]
        simp
      have HE := Lib.hid hE
      clear hE
      go_wp2_with fail
      refine (refPWr_any x HF.out.2 HF.out.1 _).mono ?_
      rintro e w2 ⟨⟨A2, m2, d2, rfl, hO2, hm2⟩, hb2⟩
      have hO3 := hO.keep hb2
      have hW2 := bt hW hb2
      have hz := hW2.size
      clear hO hb2
      go_wp2_with (at_builtin; refine wpList_apB (base := w.heap.size) (n := n3) (m := m2) (l := numB n ++ (l.take k).flatMap wB) (l2 := wB x) (by rfl) _ _ (by rfl) Tryz.underlying33 Tryz.underlying33 hi0 hz0 hz1 hz2 (by rfl) (by rfl) hO3 hO2.rd hO2.len (n3 + m2) rfl (by omega) hz ?_; intro A5 c5 w5 hO5 hb5 hg5)
      rw [HE.out] at hO5
      go_roundw
      case rel => exact ⟨k + 1, A5, n3 + m2, c5, by omega, by go_num, rfl, by omega, hO5, hW2.trans hb5⟩
      case measure => simp [intOf]; omega
    · have hq : ¬ (k : Int) < (n : Int) := by omega
      have hE : numB n ++ (l.take k).flatMap wB = wsB l := by
        unfold wsB
        rw [HN.out, List.take_of_length_le (by have := HN.out; omega)]
      rw [hE] at hO
      go_wp2_with fail
      go_ret
      exact ⟨⟨A3, n3, d3, rfl, hO⟩, hW⟩
end Go.Proofs.YtfpfalgbkbmkeaaGreatDoor

namespace Go.Proofs.YtfpfalgbkbmkeaaGreatDoor
open Go.RowKit

/-- A slice cut off at its front: its address, in one word. -/
def cutA (A : Option Addr) (c p : Nat) : Option Addr := if c = p then A else A.map (·.add p)
theorem run_cut (W : World) (A : Option Addr) (n c p : Nat) (h : p ≤ n) :
    (Instr.sliceAt 33 (.slice A n c) (some (.int .i64 (p : Int))) none none).run Tryz.prog W = .ok (.slice (cutA A c p) (n - p) (c - p)) W := by
  have h1 : (p : Int) ≤ (n : Int) := by omega
  unfold cutA
  go_simp
theorem run_cutI (W : World) (A : Option Addr) (n c p : Nat) (z : Int) (hz : z = (p : Int)) (h : p ≤ n) :
    (Instr.sliceAt 33 (.slice A n c) (some (.int .i64 z)) none none).run Tryz.prog W = .ok (.slice (cutA A c p) (n - p) (c - p)) W := by
  rw [hz]
  exact run_cut W A n c p h
theorem RdB.cut {B : Nat} {W : World} {A : Option Addr} {l : List UInt8} (h : RdB B W A l) {p c : Nat} (hc : l.length ≤ c) : RdB B W (cutA A c p) (l.drop p) := h.drop hc
/-- .. at both ends. -/
theorem run_cut2 (W : World) (A : Option Addr) (n c p q : Nat) (y z : Int) (hy : y = (p : Int)) (hz : z = (q : Int)) (h : p ≤ q) (hq : q ≤ n) (hc : n ≤ c) :
    (Instr.sliceAt 33 (.slice A n c) (some (.int .i64 y)) (some (.int .i64 z)) none).run Tryz.prog W = .ok (.slice (cutA A c p) (q - p) (c - p)) W := by
  have h1 : (p : Int) ≤ (q : Int) := by omega
  have h2 : (q : Int) ≤ (c : Int) := by omega
  rw [hy, hz]
  unfold cutA
  go_simp
/-- .. at its end. -/
theorem run_cut0 (W : World) (A : Option Addr) (n c q : Nat) (z : Int) (hz : z = (q : Int)) (hq : q ≤ n) (hc : n ≤ c) :
    (Instr.sliceAt 33 (.slice A n c) none (some (.int .i64 z)) none).run Tryz.prog W = .ok (.slice A q c) W := by
  have h2 : (q : Int) ≤ (c : Int) := by omega
  rw [hz]
  go_simp
theorem RdB.sub {B : Nat} {W : World} {A : Option Addr} {l : List UInt8} (h : RdB B W A l) {p c : Nat} (hc : l.length ≤ c) (m : Nat) : RdB B W (cutA A c p) ((l.drop p).take m) := (h.cut hc).take m
end Go.Proofs.YtfpfalgbkbmkeaaGreatDoor

namespace Go.Proofs.YtfpfalgbkbmkeaaGreatDoor
open Go.RowKit

theorem takeNum_lt (l : List UInt8) (most : Nat) : (takeNum l most).1 < 18446744073709551616 ∧ (takeNum l most).1 ≤ most ∧ (takeNum l most).2 ≤ 9 ∧ (takeNum l most).2 ≤ l.length := by
  generalize hp : takeNum l most = p
  obtain ⟨v, k⟩ := p
  by_cases h : k = 0
  · have h1 : v = 0 := by
      subst h
      cases l with
      | nil => unfold takeNum at hp; injection hp with e1 _; exact e1.symm
      | cons c t =>
        rw [takeNum_cons] at hp
        split at hp
        · injection hp with e1 _; exact e1.symm
        · split at hp
          · injection hp with e1 _; exact e1.symm
          · injection hp with _ e2; omega
    simp only
    omega
  · obtain ⟨a1, a2, a3, a4, a5, a6⟩ := num_take hp h
    have h2 := congrArg List.length a4
    rw [List.length_append, List.length_drop, ← a3] at h2
    simp only
    omega

theorem unz_odd {v : Nat} (hp : v % 2 = 1) (h : v < 18446744073709551616) : wrap64 (-1 - wrap64 (IntKind.u64.wrap ((v : Int) / 2))) = unzig v := by
  unfold unzig wrap64
  rw [if_pos hp]
  simp only [IntKind.wrap_u64]
  omega
theorem unz_even {v : Nat} (hp : ¬ v % 2 = 1) (h : v < 18446744073709551616) : wrap64 (IntKind.u64.wrap ((v : Int) / 2)) = unzig v := by
  unfold unzig wrap64
  rw [if_neg hp]
  simp only [IntKind.wrap_u64]
  omega

set_option maxRecDepth 100000 in
set_option maxHeartbeats 2000000 in
theorem refTakeInt_any {B : Nat} (A : Option Addr) (n c : Nat) (l : List UInt8) (w : World) (hn : l.length = n) (hr : RdB B w A l) (hm : n ≤ 1000000) :
    Calls Tryz.prog 161 #[.slice A n c] w fun e w' => e = .returned (.tuple #[.int .i64 (takeIntB l).1, .int .i64 ((takeIntB l).2 : Nat)]) ∧ Drn w w' := by
  have HN := Lib.hid hn
  have hlt := takeNum_lt l 18446744073709551615
  have hT : takeIntB l = (unzig (takeNum l 18446744073709551615).1, (takeNum l 18446744073709551615).2) := rfl
  have HC := Lib.hid (fun W hr => refTakeNumber_any (B := B) A n c l 18446744073709551615 W hn hr hm (by omega))
  rw [hT]
  generalize takeNum l 18446744073709551615 = r at HC hlt ⊢
  obtain ⟨v, k⟩ := r
  have HLT := Lib.hid hlt.1
  clear hn hlt hT
  go_enter Tryz.func161, Tryz.ntmps161
  go_wp2_with fail
  refine (HC.out w hr).mono ?_
  rintro e w1 ⟨rfl, hD⟩
  by_cases hp : v % 2 = 1
  · have e1 : ((v : Int) % 2 == 1) = true := by rw [beq_iff_eq]; omega
    go_wp2_with fail
    go_ret2
    exact ⟨congrArg (fun z => Ending.returned (.tuple #[.int .i64 z, .int .i64 (k : Nat)])) (unz_odd hp HLT.out), hD⟩
  · have e1 : ((v : Int) % 2 == 1) = false := by rw [beq_eq_false_iff_ne]; omega
    go_wp2_with fail
    go_ret2
    exact ⟨congrArg (fun z => Ending.returned (.tuple #[.int .i64 z, .int .i64 (k : Nat)])) (unz_even hp HLT.out), hD⟩

set_option maxRecDepth 100000 in
set_option maxHeartbeats 1000000 in
theorem refTakeFlag_any {B : Nat} (A : Option Addr) (n c : Nat) (l : List UInt8) (w : World) (hn : l.length = n) (hr : RdB B w A l) (hm : n ≤ 1000000) :
    Calls Tryz.prog 44 #[.slice A n c] w fun e w' => e = .returned (.tuple #[.bool (takeFlagB l).1, .int .i64 ((takeFlagB l).2 : Nat)]) ∧ w = w' := by
  cases l with
  | nil =>
    have n0 : n = 0 := by rw [← hn]; rfl
    subst n0
    clear hn hm
    go_enter Tryz.func44, Tryz.ntmps44
    go_wp2_with fail
    go_ret2
    exact ⟨rfl, rfl⟩
  | cons c0 t =>
    obtain ⟨ad, rfl, _, hc0⟩ := hr 0 c0 rfl
    rw [show ad.add 0 = ad from rfl] at hc0
    rw [List.length_cons] at hn
    have e0 : ((n : Int) == 0) = false := by rw [beq_eq_false_iff_ne]; omega
    have i0 : (0 : Int) < (n : Int) := by omega
    have i1 : 0 < n := by omega
    have hc := c0.toNat_lt
    by_cases h1 : 1 < c0.toNat
    · have g1 : (1 : Int) < (c0.toNat : Int) := by omega
      have g2 : 1 < c0.toNat := h1
      have R : Hid (takeFlagB (c0 :: t) = (false, 0)) := by show (if 1 < c0.toNat then _ else _) = _; rw [if_pos h1]
      clear hn hm hc h1
      go_enter Tryz.func44, Tryz.ntmps44
      go_wp2_with fail
      go_ret2
      rw [R.out]
      exact ⟨rfl, rfl⟩
    · have g1 : (c0.toNat : Int) ≤ 1 := by omega
      have R : Hid (takeFlagB (c0 :: t) = (c0 == 1, 1)) := by show (if 1 < c0.toNat then _ else _) = _; rw [if_neg h1]
      have e3 : ((c0.toNat : Int) == 1) = (c0 == 1) := by
        rw [Bool.eq_iff_iff, beq_iff_eq, beq_iff_eq]
        constructor
        · intro e
          exact UInt8.toNat_inj.1 (by show _ = 1; omega)
        · rintro rfl
          rfl
      clear hn hm hc h1
      go_enter Tryz.func44, Tryz.ntmps44
      go_wp2_with fail
      go_ret2
      rw [R.out]
      exact ⟨rfl, rfl⟩

set_option maxRecDepth 100000 in
set_option maxHeartbeats 2000000 in
theorem refTakeText_any {B : Nat} (A : Option Addr) (n c : Nat) (l : List UInt8) (most : Nat) (w : World) (hn : l.length = n) (hr : RdB B w A l) (hm : n ≤ 1000000) (hc : n ≤ c) (hmost : most ≤ 1000000) :
    Calls Tryz.prog 94 #[.slice A n c, .int .u64 most] w fun e w' => (∃ s : ByteArray, e = .returned (.tuple #[.string s, .int .i64 ((takeTextB l most).2 : Nat)]) ∧ s.data.toList = (takeTextB l most).1) ∧ Drn w w' := by
  have HN := Lib.hid hn
  have hlt := takeNum_lt l most
  have HC := Lib.hid (fun W hr => refTakeNumber_any (B := B) A n c l most W hn hr hm (by omega))
  have HT : Hid (takeTextB l most = if (takeNum l most).2 = 0 ∨ n - (takeNum l most).2 < (takeNum l most).1 then ([], 0) else ((l.drop (takeNum l most).2).take (takeNum l most).1, (takeNum l most).2 + (takeNum l most).1)) := by
    show takeTextB l most = _
    unfold takeTextB
    rw [hn]
  generalize takeNum l most = r at HC hlt HT ⊢
  obtain ⟨v, k⟩ := r
  simp only at hlt HT
  rw [hn] at hlt
  obtain ⟨_, l2, l3, l4⟩ := hlt
  have b1 : (v : Int) ≤ 1000000 := by omega
  have b2 : (k : Int) ≤ (n : Int) := by omega
  have b3 : (n : Int) ≤ 1000000 := by omega
  have b4 : (n : Int) ≤ (c : Int) := by omega
  clear hn
  by_cases hk : k = 0
  · have e0 : ((k : Int) == 0) = true := by rw [beq_iff_eq]; omega
    have R : Hid (takeTextB l most = ([], 0)) := by show _ = _; rw [HT.out, if_pos (Or.inl hk)]
    have HK := Lib.hid hk
    clear hk
    go_enter Tryz.func94, Tryz.ntmps94
    go_wp2_with fail
    refine (HC.out w hr).mono ?_
    rintro e w1 ⟨rfl, hD⟩
    go_wp2_with fail
    go_ret2
    rw [R.out]
    exact ⟨⟨_, rfl, rfl⟩, hD⟩
  · have e0 : ((k : Int) == 0) = false := by rw [beq_eq_false_iff_ne]; omega
    by_cases hv : n - k < v
    · have g1 : (n : Int) - (k : Int) < (v : Int) := by omega
      have g2 : (0 : Int) ≤ (n : Int) - (k : Int) := by omega
      have R : Hid (takeTextB l most = ([], 0)) := by show _ = _; rw [HT.out, if_pos (Or.inr hv)]
      clear hk hv
      go_enter Tryz.func94, Tryz.ntmps94
      go_wp2_with fail
      refine (HC.out w hr).mono ?_
      rintro e w1 ⟨rfl, hD⟩
      go_wp2_with fail
      go_ret2
      rw [R.out]
      exact ⟨⟨_, rfl, rfl⟩, hD⟩
    · have g1 : (v : Int) ≤ (n : Int) - (k : Int) := by omega
      have g2 : (0 : Int) ≤ (n : Int) - (k : Int) := by omega
      have g3 : (k : Int) + (v : Int) ≤ (c : Int) := by omega
      have g4 : (k : Int) ≤ (k : Int) + (v : Int) := by omega
      have R : Hid (takeTextB l most = ((l.drop k).take v, k + v)) := by show _ = _; rw [HT.out, if_neg (by rintro (h | h); exact hk h; exact hv h)]
      have hlen : ((l.drop k).take v).length = v := by
        have := HN.out
        rw [List.length_take, List.length_drop]
        omega
      have HL := Lib.hid hlen
      have hlc : l.length ≤ c := by rw [HN.out]; exact hc
      have HLC := Lib.hid hlc
      clear hk hv hlen hlc
      by_cases hck : c = k
      · have hr0 : RdB B w A ((l.drop k).take v) := by
          have h := (hr.drop (m := k) HLC.out).take v
          rwa [if_pos hck] at h
        have hv0 : v = 0 := by omega
        have HV := Lib.hid hv0
        clear hv0 hr0
        subst hck
        go_enter Tryz.func94, Tryz.ntmps94
        go_wp2_with fail
        refine (HC.out w hr).mono ?_
        rintro e w1 ⟨rfl, hD⟩
        have hcv := conv_rd w1 A 0 0 [] rfl (RdB.nil B w1 A)
        go_wp2_with fail
        go_ret2
        rw [R.out]
        exact ⟨⟨_, rfl, (List.eq_nil_of_length_eq_zero (by rw [HL.out, HV.out])).symm⟩, hD⟩
      · have hr0 : RdB B w (A.map (·.add k)) ((l.drop k).take v) := by
          have h := (hr.drop (m := k) HLC.out).take v
          rwa [if_neg hck] at h
        have HR0 := Lib.hid hr0
        have hck2 : (c == k) = false := by simpa using hck
        clear hr0
        go_enter Tryz.func94, Tryz.ntmps94
        go_wp2_with fail
        refine (HC.out w hr).mono ?_
        rintro e w1 ⟨rfl, hD⟩
        have hcv := conv_rd w1 (A.map (·.add k)) v (c - k) _ HL.out (HR0.out.keep (hD.below B) (Nat.le_refl _))
        go_wp2_with fail
        go_ret2
        rw [R.out]
        exact ⟨⟨_, rfl, rfl⟩, hD⟩
end Go.Proofs.YtfpfalgbkbmkeaaGreatDoor

namespace Go.Proofs.YtfpfalgbkbmkeaaGreatDoor
open Go.RowKit

/-- A value, taken: kind, number, text; how many bytes. -/
def takeValC (v k : Nat) (b : List UInt8) : (Int × Int × List UInt8) × Nat :=
  if k = 0 ∨ v = 0 then ((0, 0, []), k)
  else if v = 1 then (if (takeIntB (b.drop k)).2 = 0 then ((0, 0, []), 0) else ((1, (takeIntB (b.drop k)).1, []), k + (takeIntB (b.drop k)).2))
  else (if (takeTextB (b.drop k) 40).2 = 0 then ((0, 0, []), 0) else ((2, 0, (takeTextB (b.drop k) 40).1), k + (takeTextB (b.drop k) 40).2))
def takeValB (b : List UInt8) : (Int × Int × List UInt8) × Nat := takeValC (takeNum b 2).1 (takeNum b 2).2 b
/-- What TakeValue answers. -/
def TakeVP (r : (Int × Int × List UInt8) × Nat) (w : World) (e : Ending) (w' : World) : Prop :=
  (∃ s : ByteArray, e = .returned (.tuple #[.agg #[.int .i64 r.1.1, .int .i64 r.1.2.1, .string s], .int .i64 (r.2 : Nat)]) ∧ s.data.toList = r.1.2.2) ∧ Below w.heap.size w w'

set_option maxHeartbeats 400000 in
theorem refIntV_any (n : Int) (w : World) :
    Calls Tryz.prog 162 #[.int .i64 n] w fun e w' => e = .returned (.agg #[.int .i64 1, .int .i64 n, .string ⟨#[]⟩]) ∧ Below w.heap.size w w' := by
  go_enter Tryz.func162, Tryz.ntmps162
  go_wp2
  exact bodyPost_ret (v := .agg #[.int .i64 1, .int .i64 n, .string ⟨#[]⟩]) (by simp [results, Tryz.results162, go_sem]) rfl ⟨rfl, (Below.refl _ _).alloc (Nat.le_refl _) _⟩
theorem takeText_le (l : List UInt8) (most : Nat) : (takeTextB l most).2 ≤ l.length := by
  unfold takeTextB
  have h := takeNum_lt l most
  split
  · simp
  · rename_i h1
    have h2 : ¬ l.length - (takeNum l most).2 < (takeNum l most).1 := fun e => h1 (Or.inr e)
    simp only
    omega
theorem takeInt_le (l : List UInt8) : (takeIntB l).2 ≤ l.length := (takeNum_lt l 18446744073709551615).2.2.2
theorem takeInt_nil : takeIntB [] = (0, 0) := rfl
theorem takeText_nil (most : Nat) : takeTextB [] most = ([], 0) := rfl
/-- A slice cut off at its front, in the model's two forms. -/
theorem cut_cases {B : Nat} {w : World} {A : Option Addr} {n c k : Nat} {l : List UInt8} (hr : RdB B w A l) (hn : l.length = n) (hk : k ≤ n) (hc : n ≤ c) :
    (c = k ∧ n = k ∧ l.drop k = []) ∨ (c ≠ k ∧ RdB B w (A.map (·.add k)) (l.drop k) ∧ (l.drop k).length = n - k) := by
  by_cases h : c = k
  · exact Or.inl ⟨h, by omega, List.drop_eq_nil_of_le (by omega)⟩
  · have h1 := hr.drop (m := k) (c := c) (by omega)
    rw [if_neg h] at h1
    exact Or.inr ⟨h, h1, by rw [List.length_drop, hn]⟩
theorem below3b {w W : World} {b : Nat} (h : Below w.heap.size w W) (hb : w.heap.size ≤ b) (v0 v1 v2 : Value) : Below w.heap.size w (((W.setCell ⟨b, 0, none⟩ v0).setCell ⟨b, 1, none⟩ v1).setCell ⟨b, 2, none⟩ v2) :=
  ((h.setCell (p := ⟨b, 0, none⟩) hb v0).setCell (p := ⟨b, 1, none⟩) hb v1).setCell (p := ⟨b, 2, none⟩) hb v2
theorem dr_below {w a b : World} (h : Below w.heap.size w a) (k : Drn a b) : Below w.heap.size w b := bt h (k.below _)

set_option maxRecDepth 100000 in
set_option maxHeartbeats 4000000 in
theorem refTakeValue_any {B : Nat} (A : Option Addr) (n c : Nat) (l : List UInt8) (w : World) (hn : l.length = n) (hr : RdB B w A l) (hB : B ≤ w.heap.size) (hm : n ≤ 1000000) (hc : n ≤ c) :
    Calls Tryz.prog 96 #[.slice A n c] w fun e w' => TakeVP (takeValB l) w e w' := by
  have HN := Lib.hid hn
  have hlt := takeNum_lt l 2
  have HC := Lib.hid (fun W hr => refTakeNumber_any (B := B) A n c l 2 W hn hr hm (by omega))
  have HT : Hid (takeValB l = takeValC (takeNum l 2).1 (takeNum l 2).2 l) := rfl
  generalize takeNum l 2 = r at HC hlt HT ⊢
  obtain ⟨v, k⟩ := r
  simp only at hlt HT
  rw [hn] at hlt
  obtain ⟨_, l2, l3, l4⟩ := hlt
  have b2 : (k : Int) ≤ (n : Int) := by omega
  have b3 : (n : Int) ≤ 1000000 := by omega
  have b4 : (n : Int) ≤ (c : Int) := by omega
  have b5 : (k : Int) ≤ (c : Int) := by omega
  have b6 : (0 : Int) ≤ (k : Int) := by omega
  have HCUT := Lib.hid (fun W (h : RdB B W A l) => cut_cases h hn l4 hc)
  clear hn
  by_cases hk : k = 0
  · have e0 : ((k : Int) == 0) = true := by rw [beq_iff_eq]; omega
    have R : Hid (takeValB l = ((0, 0, []), k)) := by show _ = _; rw [HT.out]; exact if_pos (Or.inl hk)
    have RR := R.out
    clear hk R
    go_enter Tryz.func96, Tryz.ntmps96
    go_wp2_with fail
    have hK := blk_new w #[.int .i64 0, .int .i64 0, .string ⟨#[]⟩] 51
    have hB0 := b0 w (.cells #[.int .i64 0, .int .i64 0, .string ⟨#[]⟩] 51)
    generalize w.alloc (.cells #[.int .i64 0, .int .i64 0, .string ⟨#[]⟩] 51) = W at hK hB0 ⊢
    have hrW := hr.keep hB0 hB
    refine (HC.out W hrW).mono ?_
    rintro e w1 ⟨rfl, hD⟩
    have hr1 := hrW.keep (hD.below B) (Nat.le_refl _)
    have hB1 := dr_below hB0 hD
    have hK1 := hK.keep (hD.below _)
    clear hK hB0 hrW hD
    generalize hq : w.heap.size = b at hK1 ⊢
    have hbw : w.heap.size ≤ b := Nat.le_of_eq hq
    clear hq
    obtain ⟨c0, c1, c2, c3⟩ := hK1.c3
    obtain ⟨f0, f1, f2⟩ := hK1.f3
    go_wp2_with fail
    exact bodyPost_ret (v := .tuple #[.agg #[.int .i64 0, .int .i64 0, .string ⟨#[]⟩], .int .i64 (k : Nat)]) (by simp [results, Tryz.results96, go_sem, c0, c1, c2]) rfl (by rw [RR]; exact ⟨⟨_, rfl, rfl⟩, below3b hB1 hbw _ _ _⟩)
  · have e0 : ((k : Int) == 0) = false := by rw [beq_eq_false_iff_ne]; omega
    have hv : v = 0 ∨ v = 1 ∨ v = 2 := by omega
    rcases hv with rfl | rfl | rfl
    · have RR : takeValB l = ((0, 0, []), k) := by rw [HT.out]; exact if_pos (Or.inr rfl)
      have R := Lib.hid RR
      clear RR hk
      go_enter Tryz.func96, Tryz.ntmps96
      go_wp2_with fail
      have hK := blk_new w #[.int .i64 0, .int .i64 0, .string ⟨#[]⟩] 51
      have hB0 := b0 w (.cells #[.int .i64 0, .int .i64 0, .string ⟨#[]⟩] 51)
      generalize w.alloc (.cells #[.int .i64 0, .int .i64 0, .string ⟨#[]⟩] 51) = W at hK hB0 ⊢
      have hrW := hr.keep hB0 hB
      refine (HC.out W hrW).mono ?_
      rintro e w1 ⟨rfl, hD⟩
      have hr1 := hrW.keep (hD.below B) (Nat.le_refl _)
      have hB1 := dr_below hB0 hD
      have hK1 := hK.keep (hD.below _)
      clear hK hB0 hrW hD
      generalize hq : w.heap.size = b at hK1 ⊢
      have hbw : w.heap.size ≤ b := Nat.le_of_eq hq
      clear hq
      obtain ⟨c0, c1, c2, c3⟩ := hK1.c3
      obtain ⟨f0, f1, f2⟩ := hK1.f3
      go_wp2_with fail
      exact bodyPost_ret (v := .tuple #[.agg #[.int .i64 0, .int .i64 0, .string ⟨#[]⟩], .int .i64 (k : Nat)]) (by simp [results, Tryz.results96, go_sem, c0, c1, c2]) rfl (by rw [R.out]; exact ⟨⟨_, rfl, rfl⟩, below3b hB1 hbw _ _ _⟩)
    · rcases HCUT.out w hr with ⟨hck, hnk, hnil⟩ | ⟨hck, hr5, hl5⟩
      · have R : Hid (takeValB l = ((0, 0, []), 0)) := by
          show _ = _
          rw [HT.out]; unfold takeValC; rw [if_neg (by omega), if_pos rfl]
          rw [hnil]
          rfl
        subst hck
        subst hnk
        clear hk
        go_enter Tryz.func96, Tryz.ntmps96
        go_wp2_with fail
        have hK := blk_new w #[.int .i64 0, .int .i64 0, .string ⟨#[]⟩] 51
        have hB0 := b0 w (.cells #[.int .i64 0, .int .i64 0, .string ⟨#[]⟩] 51)
        generalize w.alloc (.cells #[.int .i64 0, .int .i64 0, .string ⟨#[]⟩] 51) = W at hK hB0 ⊢
        have hrW := hr.keep hB0 hB
        refine (HC.out W hrW).mono ?_
        rintro e w1 ⟨rfl, hD⟩
        have hr1 := hrW.keep (hD.below B) (Nat.le_refl _)
        have hB1 := dr_below hB0 hD
        have hK1 := hK.keep (hD.below _)
        clear hK hB0 hrW hD
        generalize hq : w.heap.size = b at hK1 ⊢
        have hbw : w.heap.size ≤ b := Nat.le_of_eq hq
        clear hq
        obtain ⟨c0, c1, c2, c3⟩ := hK1.c3
        obtain ⟨f0, f1, f2⟩ := hK1.f3
        go_wp2_with fail
        refine (refTakeInt_any A 0 0 [] _ rfl (RdB.nil B w1 A) (by omega)).mono ?_
        rintro e w2 ⟨rfl, hD2⟩
        rw [takeInt_nil]
        skip
        have hB2 := dr_below hB1 hD2
        have hK2 := hK1.keep (hD2.below _)
        clear c0 c1 c2 c3 f0 f1 f2
        obtain ⟨c0, c1, c2, c3⟩ := hK2.c3
        obtain ⟨f0, f1, f2⟩ := hK2.f3
        go_wp2_with fail
        exact bodyPost_ret (v := .tuple #[.agg #[.int .i64 0, .int .i64 0, .string ⟨#[]⟩], .int .i64 0]) (by simp [results, Tryz.results96, go_sem, c0, c1, c2]) rfl (by rw [R.out]; exact ⟨⟨_, rfl, rfl⟩, below3b hB2 hbw _ _ _⟩)
      · have HX : Hid (takeIntB (l.drop k) = (takeIntB (l.drop k))) := rfl
        generalize hq : takeIntB (l.drop k) = q at HX
        obtain ⟨x, m⟩ := q
        have hml : m ≤ n - k := by
          have h := takeInt_le (l.drop k)
          rw [hq, hl5] at h
          exact h
        have HQ := Lib.hid hq
        have HL5 := Lib.hid hl5
        have HR5 := Lib.hid hr5
        have hck2 : (c == k) = false := by simpa using hck
        clear hq hl5 hr5 HX
        by_cases h0 : m = 0
        · have R : Hid (takeValB l = ((0, 0, []), 0)) := by
            show _ = _
            rw [HT.out]; unfold takeValC; rw [if_neg (by omega), if_pos rfl]
            rw [HQ.out]
            exact if_pos h0
          have e1 : ((m : Int) == 0) = true := by rw [beq_iff_eq]; omega
          clear h0 hk
          go_enter Tryz.func96, Tryz.ntmps96
          go_wp2_with fail
          have hK := blk_new w #[.int .i64 0, .int .i64 0, .string ⟨#[]⟩] 51
          have hB0 := b0 w (.cells #[.int .i64 0, .int .i64 0, .string ⟨#[]⟩] 51)
          generalize w.alloc (.cells #[.int .i64 0, .int .i64 0, .string ⟨#[]⟩] 51) = W at hK hB0 ⊢
          have hrW := hr.keep hB0 hB
          refine (HC.out W hrW).mono ?_
          rintro e w1 ⟨rfl, hD⟩
          have hr1 := hrW.keep (hD.below B) (Nat.le_refl _)
          have hB1 := dr_below hB0 hD
          have hK1 := hK.keep (hD.below _)
          clear hK hB0 hrW hD
          generalize hq : w.heap.size = b at hK1 ⊢
          have hbw : w.heap.size ≤ b := Nat.le_of_eq hq
          clear hq
          obtain ⟨c0, c1, c2, c3⟩ := hK1.c3
          obtain ⟨f0, f1, f2⟩ := hK1.f3
          go_wp2_with fail
          have hr5 := (HCUT.out w1 hr1).resolve_left (fun h => hck h.1) |>.2.1
          refine (refTakeInt_any (A.map (·.add k)) (n - k) (c - k) (l.drop k) _ HL5.out hr5 (by omega)).mono ?_
          rintro e w2 ⟨rfl, hD2⟩
          rw [HQ.out]
          have hB2 := dr_below hB1 hD2
          have hK2 := hK1.keep (hD2.below _)
          clear c0 c1 c2 c3 f0 f1 f2
          obtain ⟨c0, c1, c2, c3⟩ := hK2.c3
          obtain ⟨f0, f1, f2⟩ := hK2.f3
          go_wp2_with fail
          exact bodyPost_ret (v := .tuple #[.agg #[.int .i64 0, .int .i64 0, .string ⟨#[]⟩], .int .i64 0]) (by simp [results, Tryz.results96, go_sem, c0, c1, c2]) rfl (by rw [R.out]; exact ⟨⟨_, rfl, rfl⟩, below3b hB2 hbw _ _ _⟩)
        · have R : Hid (takeValB l = ((1, x, []), k + m)) := by
            show _ = _
            rw [HT.out]; unfold takeValC; rw [if_neg (by omega), if_pos rfl]
            rw [HQ.out]
            exact if_neg h0
          have e1 : ((m : Int) == 0) = false := by rw [beq_eq_false_iff_ne]; omega
          clear h0 hk
          go_enter Tryz.func96, Tryz.ntmps96
          go_wp2_with fail
          have hK := blk_new w #[.int .i64 0, .int .i64 0, .string ⟨#[]⟩] 51
          have hB0 := b0 w (.cells #[.int .i64 0, .int .i64 0, .string ⟨#[]⟩] 51)
          generalize w.alloc (.cells #[.int .i64 0, .int .i64 0, .string ⟨#[]⟩] 51) = W at hK hB0 ⊢
          have hrW := hr.keep hB0 hB
          refine (HC.out W hrW).mono ?_
          rintro e w1 ⟨rfl, hD⟩
          have hr1 := hrW.keep (hD.below B) (Nat.le_refl _)
          have hB1 := dr_below hB0 hD
          have hK1 := hK.keep (hD.below _)
          clear hK hB0 hrW hD
          generalize hq : w.heap.size = b at hK1 ⊢
          have hbw : w.heap.size ≤ b := Nat.le_of_eq hq
          clear hq
          obtain ⟨c0, c1, c2, c3⟩ := hK1.c3
          obtain ⟨f0, f1, f2⟩ := hK1.f3
          go_wp2_with fail
          have hr5 := (HCUT.out w1 hr1).resolve_left (fun h => hck h.1) |>.2.1
          refine (refTakeInt_any (A.map (·.add k)) (n - k) (c - k) (l.drop k) _ HL5.out hr5 (by omega)).mono ?_
          rintro e w2 ⟨rfl, hD2⟩
          rw [HQ.out]
          have hB2 := dr_below hB1 hD2
          have hK2 := hK1.keep (hD2.below _)
          clear c0 c1 c2 c3 f0 f1 f2
          obtain ⟨c0, c1, c2, c3⟩ := hK2.c3
          obtain ⟨f0, f1, f2⟩ := hK2.f3
          go_wp2_with fail
          refine (refIntV_any x _).mono ?_
          rintro e w3 ⟨rfl, hb3⟩
          have hB3 := bt hB2 hb3
          have hK3 := hK2.keep hb3
          clear c0 c1 c2 c3 f0 f1 f2
          obtain ⟨c0, c1, c2, c3⟩ := hK3.c3
          obtain ⟨f0, f1, f2⟩ := hK3.f3
          go_wp2_with fail
          exact bodyPost_ret (v := .tuple #[.agg #[.int .i64 1, .int .i64 x, .string ⟨#[]⟩], .int .i64 (k + m : Nat)]) (by simp [results, Tryz.results96, go_sem, c0, c1, c2]) rfl (by rw [R.out]; exact ⟨⟨_, rfl, rfl⟩, below3b hB3 hbw _ _ _⟩)
    · rcases HCUT.out w hr with ⟨hck, hnk, hnil⟩ | ⟨hck, hr5, hl5⟩
      · have R : Hid (takeValB l = ((0, 0, []), 0)) := by
          show _ = _
          rw [HT.out]; unfold takeValC; rw [if_neg (by omega), if_neg (by omega)]
          rw [hnil]
          rfl
        subst hck
        subst hnk
        clear hk
        go_enter Tryz.func96, Tryz.ntmps96
        go_wp2_with fail
        have hK := blk_new w #[.int .i64 0, .int .i64 0, .string ⟨#[]⟩] 51
        have hB0 := b0 w (.cells #[.int .i64 0, .int .i64 0, .string ⟨#[]⟩] 51)
        generalize w.alloc (.cells #[.int .i64 0, .int .i64 0, .string ⟨#[]⟩] 51) = W at hK hB0 ⊢
        have hrW := hr.keep hB0 hB
        refine (HC.out W hrW).mono ?_
        rintro e w1 ⟨rfl, hD⟩
        have hr1 := hrW.keep (hD.below B) (Nat.le_refl _)
        have hB1 := dr_below hB0 hD
        have hK1 := hK.keep (hD.below _)
        clear hK hB0 hrW hD
        generalize hq : w.heap.size = b at hK1 ⊢
        have hbw : w.heap.size ≤ b := Nat.le_of_eq hq
        clear hq
        obtain ⟨c0, c1, c2, c3⟩ := hK1.c3
        obtain ⟨f0, f1, f2⟩ := hK1.f3
        go_wp2_with fail
        refine (refTakeText_any A 0 0 [] 40 _ rfl (RdB.nil B w1 A) (by omega) (by omega) (by omega)).mono ?_
        rintro e w2 ⟨⟨s2, rfl, hs2⟩, hD2⟩
        rw [takeText_nil 40] at hs2 ⊢
        clear hs2
        have hB2 := dr_below hB1 hD2
        have hK2 := hK1.keep (hD2.below _)
        clear c0 c1 c2 c3 f0 f1 f2
        obtain ⟨c0, c1, c2, c3⟩ := hK2.c3
        obtain ⟨f0, f1, f2⟩ := hK2.f3
        go_wp2_with fail
        exact bodyPost_ret (v := .tuple #[.agg #[.int .i64 0, .int .i64 0, .string ⟨#[]⟩], .int .i64 0]) (by simp [results, Tryz.results96, go_sem, c0, c1, c2]) rfl (by rw [R.out]; exact ⟨⟨_, rfl, rfl⟩, below3b hB2 hbw _ _ _⟩)
      · have HX : Hid (takeTextB (l.drop k) 40 = (takeTextB (l.drop k) 40)) := rfl
        generalize hq : takeTextB (l.drop k) 40 = q at HX
        obtain ⟨x, m⟩ := q
        have hml : m ≤ n - k := by
          have h := takeText_le (l.drop k) 40
          rw [hq, hl5] at h
          exact h
        have HQ := Lib.hid hq
        have HL5 := Lib.hid hl5
        have HR5 := Lib.hid hr5
        have hck2 : (c == k) = false := by simpa using hck
        clear hq hl5 hr5 HX
        by_cases h0 : m = 0
        · have R : Hid (takeValB l = ((0, 0, []), 0)) := by
            show _ = _
            rw [HT.out]; unfold takeValC; rw [if_neg (by omega), if_neg (by omega)]
            rw [HQ.out]
            exact if_pos h0
          have e1 : ((m : Int) == 0) = true := by rw [beq_iff_eq]; omega
          clear h0 hk
          go_enter Tryz.func96, Tryz.ntmps96
          go_wp2_with fail
          have hK := blk_new w #[.int .i64 0, .int .i64 0, .string ⟨#[]⟩] 51
          have hB0 := b0 w (.cells #[.int .i64 0, .int .i64 0, .string ⟨#[]⟩] 51)
          generalize w.alloc (.cells #[.int .i64 0, .int .i64 0, .string ⟨#[]⟩] 51) = W at hK hB0 ⊢
          have hrW := hr.keep hB0 hB
          refine (HC.out W hrW).mono ?_
          rintro e w1 ⟨rfl, hD⟩
          have hr1 := hrW.keep (hD.below B) (Nat.le_refl _)
          have hB1 := dr_below hB0 hD
          have hK1 := hK.keep (hD.below _)
          clear hK hB0 hrW hD
          generalize hq : w.heap.size = b at hK1 ⊢
          have hbw : w.heap.size ≤ b := Nat.le_of_eq hq
          clear hq
          obtain ⟨c0, c1, c2, c3⟩ := hK1.c3
          obtain ⟨f0, f1, f2⟩ := hK1.f3
          go_wp2_with fail
          have hr5 := (HCUT.out w1 hr1).resolve_left (fun h => hck h.1) |>.2.1
          refine (refTakeText_any (A.map (·.add k)) (n - k) (c - k) (l.drop k) 40 _ HL5.out hr5 (by omega) (by omega) (by omega)).mono ?_
          rintro e w2 ⟨⟨s2, rfl, hs2⟩, hD2⟩
          rw [HQ.out] at hs2 ⊢
          have hB2 := dr_below hB1 hD2
          have hK2 := hK1.keep (hD2.below _)
          clear c0 c1 c2 c3 f0 f1 f2
          obtain ⟨c0, c1, c2, c3⟩ := hK2.c3
          obtain ⟨f0, f1, f2⟩ := hK2.f3
          go_wp2_with fail
          exact bodyPost_ret (v := .tuple #[.agg #[.int .i64 0, .int .i64 0, .string ⟨#[]⟩], .int .i64 0]) (by simp [results, Tryz.results96, go_sem, c0, c1, c2]) rfl (by rw [R.out]; exact ⟨⟨_, rfl, rfl⟩, below3b hB2 hbw _ _ _⟩)
        · have R : Hid (takeValB l = ((2, 0, x), k + m)) := by
            show _ = _
            rw [HT.out]; unfold takeValC; rw [if_neg (by omega), if_neg (by omega)]
            rw [HQ.out]
            exact if_neg h0
          have e1 : ((m : Int) == 0) = false := by rw [beq_eq_false_iff_ne]; omega
          clear h0 hk
          go_enter Tryz.func96, Tryz.ntmps96
          go_wp2_with fail
          have hK := blk_new w #[.int .i64 0, .int .i64 0, .string ⟨#[]⟩] 51
          have hB0 := b0 w (.cells #[.int .i64 0, .int .i64 0, .string ⟨#[]⟩] 51)
          generalize w.alloc (.cells #[.int .i64 0, .int .i64 0, .string ⟨#[]⟩] 51) = W at hK hB0 ⊢
          have hrW := hr.keep hB0 hB
          refine (HC.out W hrW).mono ?_
          rintro e w1 ⟨rfl, hD⟩
          have hr1 := hrW.keep (hD.below B) (Nat.le_refl _)
          have hB1 := dr_below hB0 hD
          have hK1 := hK.keep (hD.below _)
          clear hK hB0 hrW hD
          generalize hq : w.heap.size = b at hK1 ⊢
          have hbw : w.heap.size ≤ b := Nat.le_of_eq hq
          clear hq
          obtain ⟨c0, c1, c2, c3⟩ := hK1.c3
          obtain ⟨f0, f1, f2⟩ := hK1.f3
          go_wp2_with fail
          have hr5 := (HCUT.out w1 hr1).resolve_left (fun h => hck h.1) |>.2.1
          refine (refTakeText_any (A.map (·.add k)) (n - k) (c - k) (l.drop k) 40 _ HL5.out hr5 (by omega) (by omega) (by omega)).mono ?_
          rintro e w2 ⟨⟨s2, rfl, hs2⟩, hD2⟩
          rw [HQ.out] at hs2 ⊢
          have hB2 := dr_below hB1 hD2
          have hK2 := hK1.keep (hD2.below _)
          clear c0 c1 c2 c3 f0 f1 f2
          obtain ⟨c0, c1, c2, c3⟩ := hK2.c3
          obtain ⟨f0, f1, f2⟩ := hK2.f3
          go_wp2_with fail
          exact bodyPost_ret (v := .tuple #[.agg #[.int .i64 2, .int .i64 0, .string s2], .int .i64 (k + m : Nat)]) (by simp [results, Tryz.results96, go_sem, c0, c1, c2]) rfl (by rw [R.out]; exact ⟨⟨_, rfl, hs2⟩, below3b hB2 hbw _ _ _⟩)
end Go.Proofs.YtfpfalgbkbmkeaaGreatDoor
