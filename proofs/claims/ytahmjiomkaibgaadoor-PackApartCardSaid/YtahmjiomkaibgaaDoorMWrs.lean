/-
  WHAT IS PROVED: words for slices of writes (own work): a slice that reads as a list of writes, nil let in; the document's Good of ids, of writes, of lists of writes. Conditions: those typed in each theorem. · words for slices of writes (own work): a slice that reads as a list of writes, nil let in; the document's Good of lists of writes. Conditions: those typed in each theorem. · the document's bytes of good writes, of lists of them (spinneyref05.Writes). Conditions: those typed in each theorem. · stamp.Good answers what the document's Good of a write does. Condition: the texts are no longer than the form's reach.
-/
import Derived.Test.YtahmjiomkaibgaaDoorMGood
import Derived.Test.YtahmjiomkaibgaaDoorMRef
namespace Go.Proofs.YtahmjiomkaibgaaDoor
open Go.RowKit

/-- A write's ten cells, as a value. -/
abbrev wrI (dev seq K : Int) (ky : ByteArray) (ka na : Int) (sa : ByteArray) (kb nb : Int) (sb : ByteArray) : Array Value :=
  #[.int .i64 dev, .int .i64 seq, .int .i64 K, .string ky, .int .i64 ka, .int .i64 na, .string sa, .int .i64 kb, .int .i64 nb, .string sb]
/-- Is it good? -/
def idB (dev seq : Int) : Bool := decide (1 ≤ dev ∧ dev ≤ 11 ∧ 1 ≤ seq ∧ seq ≤ 40)
def wrGoodB (dev seq K : Int) (ky : ByteArray) (ka na : Int) (sa : ByteArray) (kb nb : Int) (sb : ByteArray) : Bool := idB dev seq && opB K ky ka na sa kb nb sb

set_option maxHeartbeats 1000000 in
theorem refGoodId_any (dev seq : Int) (w : World) :
    Calls Tryd.prog 70 #[.agg #[.int .i64 dev, .int .i64 seq]] w fun e w' => e = .returned (.bool (idB dev seq)) ∧ Below w.heap.size w w' := by
  go_enter Tryd.func70, Tryd.ntmps70
  go_wp2
  all_goals go_ret
  all_goals refine ⟨ret_bool ?_, b0 _ _⟩
  all_goals unfold idB
  all_goals rw [Bool.eq_iff_iff]
  all_goals simp only [decide_eq_true_eq, Bool.false_eq_true, false_iff] at *
  all_goals omega

theorem blk_c10 {W : World} {b : Nat} {v0 v1 v2 v3 v4 v5 v6 v7 v8 v9 : Value} {t : TypeId} (h : Blk W b #[v0, v1, v2, v3, v4, v5, v6, v7, v8, v9] t) :
    W.cell? ⟨b, 0, none⟩ = some v0 ∧ W.cell? ⟨b, 1, none⟩ = some v1 ∧ W.cell? ⟨b, 2, none⟩ = some v2 ∧ W.cell? ⟨b, 3, none⟩ = some v3 ∧ W.cell? ⟨b, 4, none⟩ = some v4 ∧ W.cell? ⟨b, 5, none⟩ = some v5 ∧ W.cell? ⟨b, 6, none⟩ = some v6 ∧ W.cell? ⟨b, 7, none⟩ = some v7 ∧ W.cell? ⟨b, 8, none⟩ = some v8 ∧ W.cell? ⟨b, 9, none⟩ = some v9 ∧ b < W.heap.size :=
  ⟨h.cell 0, h.cell 1, h.cell 2, h.cell 3, h.cell 4, h.cell 5, h.cell 6, h.cell 7, h.cell 8, h.cell 9, h.lt⟩

set_option maxHeartbeats 2000000 in
theorem refWrGood_any (dev seq K ka na kb nb : Int) (ky sa sb : ByteArray) (w : World) (hk : ky.size ≤ maxLen) (ha : sa.size ≤ maxLen) (hb : sb.size ≤ maxLen) :
    Calls Tryd.prog 48 #[.agg (wrI dev seq K ky ka na sa kb nb sb)] w fun e w' => e = .returned (.bool (wrGoodB dev seq K ky ka na sa kb nb sb)) ∧ Below w.heap.size w w' := by
  go_enter Tryd.func48, Tryd.ntmps48
  go_wp2_with fail
  have hC := Lib.hid (blk_new w (wrI dev seq K ky ka na sa kb nb sb) 48)
  have hB := b0 w (.cells (wrI dev seq K ky ka na sa kb nb sb) 48)
  generalize w.alloc (.cells (wrI dev seq K ky ka na sa kb nb sb) 48) = W at hC hB ⊢
  refine (refGoodId_any _ _ _).mono ?_
  rintro e w1 ⟨rfl, hb1⟩
  replace hB := bt hB hb1
  replace hC := Lib.hid (hC.out.keep hb1)
  clear hb1
  obtain ⟨c0, c1, c2, c3, c4, c5, c6, c7, c8, c9, c10⟩ := blk_c10 hC.out
  cases gi : idB dev seq
  · have R : Hid (wrGoodB dev seq K ky ka na sa kb nb sb = false) := by show _ = _; unfold wrGoodB; rw [gi]; rfl
    clear gi
    go_wp2_with fail
    go_ret
    exact ⟨ret_bool R.out.symm, hB⟩
  · have R : Hid (wrGoodB dev seq K ky ka na sa kb nb sb = opB K ky ka na sa kb nb sb) := by show _ = _; unfold wrGoodB; rw [gi]; rfl
    clear gi
    go_wp2_with fail
    refine (refOpGood_any _ _ _ _ _ _ _ _ _ hk ha hb).mono ?_
    rintro e w2 ⟨rfl, hb2⟩
    replace hB := bt hB hb2
    go_wp2_with fail
    go_ret
    exact ⟨ret_bool R.out.symm, hB⟩
end Go.Proofs.YtahmjiomkaibgaaDoor

namespace Go.Proofs.YtahmjiomkaibgaaDoor
open Go.RowKit
attribute [local go_sem ↓] Go.wp_at_zero Go.wp_at_succ

/-- A write. -/
structure Wr where
  dev : Int
  seq : Int
  K : Int
  ky : ByteArray
  ka : Int
  na : Int
  sa : ByteArray
  kb : Int
  nb : Int
  sb : ByteArray
abbrev Wr.cells (x : Wr) : Array Value := wrI x.dev x.seq x.K x.ky x.ka x.na x.sa x.kb x.nb x.sb
def Wr.good (x : Wr) : Bool := wrGoodB x.dev x.seq x.K x.ky x.ka x.na x.sa x.kb x.nb x.sb
/-- Its texts are no longer than the form's reach, its numbers are of 64 bits. -/
def Wr.fits (x : Wr) : Prop := x.ky.size ≤ maxLen ∧ x.sa.size ≤ maxLen ∧ x.sb.size ≤ maxLen ∧ (-9223372036854775808 ≤ x.na ∧ x.na ≤ 9223372036854775807) ∧ (-9223372036854775808 ≤ x.nb ∧ x.nb ≤ 9223372036854775807)
/-- The slice at A reads as the writes l, in blocks below B. -/
def RdW (B : Nat) (W : World) (A : Option Addr) (l : List Wr) : Prop :=
  ∀ k x, l[k]? = some x → ∃ ad, A = some ad ∧ ad.block < B ∧ ∀ j v, x.cells[j]? = some v → W.cell? (ad.add (k * 10 + j)) = some v
theorem RdW.nil (B : Nat) (W : World) (A : Option Addr) : RdW B W A [] := fun k x h => by simp at h
theorem RdW.keep {B C : Nat} {W W' : World} {A : Option Addr} {l : List Wr} (h : RdW B W A l) (hb : Below C W W') (hBC : B ≤ C) : RdW B W' A l := by
  intro k x hx
  obtain ⟨ad, hA, hl, hc⟩ := h k x hx
  exact ⟨ad, hA, hl, fun j v hv => (hb.cell (by rw [add_block]; omega)).trans (hc j v hv)⟩
theorem RdW.more {B C : Nat} {W : World} {A : Option Addr} {l : List Wr} (h : RdW B W A l) (hBC : B ≤ C) : RdW C W A l := by
  intro k x hx
  obtain ⟨ad, hA, hl, hc⟩ := h k x hx
  exact ⟨ad, hA, by omega, hc⟩
theorem RdW.drew_ {B : Nat} {W : World} {A : Option Addr} {l : List Wr} (h : RdW B W A l) : RdW B W.drew A l := h
theorem RdW.at_ {B : Nat} {W : World} {A : Option Addr} {l : List Wr} (h : RdW B W A l) {k : Nat} (hk : k < l.length) : ∃ ad, A = some ad ∧ ad.block < B ∧ ∀ j v, (l[k]).cells[j]? = some v → W.cell? (ad.add (k * 10 + j)) = some v :=
  h k _ (List.getElem?_eq_getElem hk)

theorem add_at (a : Addr) (i j : Nat) : a.add (i + (j + 1)) = ⟨(a.add i).block, (a.add i).off + (j + 1), none⟩ := by
  rw [← add_add', Addr.add, if_neg (by omega)]
/-- A write's ten cells, as a load asks for them. -/
theorem wr_cells {W : World} {ad : Addr} {k : Nat} {x : Wr} (hc : ∀ j v, x.cells[j]? = some v → W.cell? (ad.add (k * 10 + j)) = some v) :
    W.cell? (ad.add (k * 10)) = some (.int .i64 x.dev) ∧ W.cell? ⟨(ad.add (k * 10)).block, (ad.add (k * 10)).off + 1, none⟩ = some (.int .i64 x.seq) ∧ W.cell? ⟨(ad.add (k * 10)).block, (ad.add (k * 10)).off + 2, none⟩ = some (.int .i64 x.K) ∧ W.cell? ⟨(ad.add (k * 10)).block, (ad.add (k * 10)).off + 3, none⟩ = some (.string x.ky) ∧
    W.cell? ⟨(ad.add (k * 10)).block, (ad.add (k * 10)).off + 4, none⟩ = some (.int .i64 x.ka) ∧ W.cell? ⟨(ad.add (k * 10)).block, (ad.add (k * 10)).off + 5, none⟩ = some (.int .i64 x.na) ∧ W.cell? ⟨(ad.add (k * 10)).block, (ad.add (k * 10)).off + 6, none⟩ = some (.string x.sa) ∧
    W.cell? ⟨(ad.add (k * 10)).block, (ad.add (k * 10)).off + 7, none⟩ = some (.int .i64 x.kb) ∧ W.cell? ⟨(ad.add (k * 10)).block, (ad.add (k * 10)).off + 8, none⟩ = some (.int .i64 x.nb) ∧ W.cell? ⟨(ad.add (k * 10)).block, (ad.add (k * 10)).off + 9, none⟩ = some (.string x.sb) := by
  have h : ∀ j v, x.cells[j + 1]? = some v → W.cell? ⟨(ad.add (k * 10)).block, (ad.add (k * 10)).off + (j + 1), none⟩ = some v := fun j v hv => by
    rw [← add_at]
    exact hc (j + 1) v hv
  exact ⟨hc 0 _ rfl, h 0 _ rfl, h 1 _ rfl, h 2 _ rfl, h 3 _ rfl, h 4 _ rfl, h 5 _ rfl, h 6 _ rfl, h 7 _ rfl, h 8 _ rfl⟩

def goodAll (l : List Wr) : Bool := l.all Wr.good

set_option maxRecDepth 100000 in
set_option maxHeartbeats 4000000 in
theorem refGoodAll_any {B : Nat} (A : Option Addr) (n c : Nat) (l : List Wr) (w : World) (hn : l.length = n) (hr : RdW B w A l) (hB : B ≤ w.heap.size) (hm : n ≤ maxLen) (hf : ∀ x, x ∈ l → x.fits) :
    Calls Tryd.prog 18 #[.slice A n c] w fun e w' => e = .returned (.bool (goodAll l)) ∧ Below w.heap.size w w' := by
  have HN := Lib.hid hn
  have HR := Lib.hid (fun W hb => hr.keep (W' := W) hb hB)
  unfold maxLen at hm
  clear hn hr
  go_enter Tryd.func18, Tryd.ntmps18
  go_wp2_with fail
  go_loopw [6] (fun i wr => ∃ k : Nat, k ≤ n ∧ i = .int .i64 k ∧ Hid (∀ x, x ∈ l.take k → x.good = true) ∧ Below w.heap.size w wr) (fun i _ => n - (intOf i).toNat)
  case atStart => exact ⟨0, Nat.zero_le _, rfl, fun x hx => by simp at hx, Below.refl _ _⟩
  case round =>
    obtain ⟨k, hk, rfl, hA, hW⟩ := hrel
    by_cases hlt : k < n
    · obtain ⟨x, hx⟩ : ∃ x, l[k]? = some x := ⟨_, List.getElem?_eq_getElem (show k < l.length by have := HN.out; omega)⟩
      obtain ⟨ad, rfl, _, hc⟩ := HR.out wr hW k x hx
      have i1 : (0 : Int) ≤ (k : Int) := by omega
      have i2 : (k : Int) < (n : Int) := by omega
      have HX := Lib.hid hx
      have hfx := hf x (List.mem_of_getElem? hx)
      clear hx
      obtain ⟨c0, c1, c2, c3, c4, c5, c6, c7, c8, c9⟩ := wr_cells hc
      clear hc
      have hG := fun W => refWrGood_any x.dev x.seq x.K x.ka x.na x.kb x.nb x.ky x.sa x.sb W hfx.1 hfx.2.1 hfx.2.2.1
      have HG := Lib.hid hG
      clear hG
      go_wp2_with fail
      refine (HG.out _).mono ?_
      rintro e w2 ⟨rfl, hb2⟩
      replace hW := bt hW hb2
      cases hg : wrGoodB x.dev x.seq x.K x.ky x.ka x.na x.sa x.kb x.nb x.sb
      · have R : Hid (goodAll l = false) := by
          show _ = _
          unfold goodAll
          rw [Bool.eq_false_iff]
          intro h
          rw [List.all_eq_true] at h
          have := h x (List.mem_of_getElem? HX.out)
          unfold Wr.good at this
          rw [hg] at this
          cases this
        clear hg
        go_wp2_with fail
        go_ret
        exact ⟨ret_bool R.out.symm, hW⟩
      · have HA2 : Hid (∀ y, y ∈ l.take (k + 1) → y.good = true) := fun y hy => by
          rw [List.take_add_one, HX.out] at hy
          rcases List.mem_append.1 hy with h | h
          · exact hA.out y h
          · have e : y = x := by simpa using h
            rw [e]
            exact hg
        clear hg hA
        go_wp2_with fail
        go_roundw
        case rel => exact ⟨k + 1, by omega, by go_num, HA2, hW⟩
        case measure => simp [intOf]; omega
    · have hq : ¬ (k : Int) < (n : Int) := by omega
      have R : Hid (goodAll l = true) := by
        show _ = _
        unfold goodAll
        rw [List.all_eq_true]
        intro x hx
        refine hA.out x ?_
        rw [List.take_of_length_le (by have := HN.out; omega)]
        exact hx
      clear hA
      go_wp2_with fail
      go_ret
      exact ⟨ret_bool R.out.symm, hW⟩
end Go.Proofs.YtahmjiomkaibgaaDoor

namespace Go.Proofs.YtahmjiomkaibgaaDoor
open Go.RowKit
attribute [local go_sem ↓] Go.wp_at_zero Go.wp_at_succ

/-- A write's bytes; a list's. -/
def wB (x : Wr) : List UInt8 := wrB x.dev.toNat x.seq.toNat x.K.toNat x.ky.data.toList x.ka x.na x.sa.data.toList x.kb x.nb x.sb.data.toList
def wsB (l : List Wr) : List UInt8 := numB l.length ++ l.flatMap wB
theorem goodB_in {k n : Int} {s : ByteArray} (h : goodB k n s = true) : (k = 0 ∨ k = 1 ∨ k = 2) ∧ s.size ≤ 40 := by
  unfold goodB at h
  rw [decide_eq_true_eq] at h
  omega
theorem good_in {x : Wr} (h : x.good = true) : (1 ≤ x.dev ∧ x.dev ≤ 11) ∧ (1 ≤ x.seq ∧ x.seq ≤ 40) ∧ (1 ≤ x.K ∧ x.K ≤ 4) ∧ x.ky.size ≤ 20 ∧ ((x.ka = 0 ∨ x.ka = 1 ∨ x.ka = 2) ∧ x.sa.size ≤ 40) ∧ ((x.kb = 0 ∨ x.kb = 1 ∨ x.kb = 2) ∧ x.sb.size ≤ 40) := by
  unfold Wr.good wrGoodB idB opB at h
  simp only [Bool.and_eq_true, decide_eq_true_eq] at h
  obtain ⟨h1, ⟨⟨h2, h3⟩, h4⟩, h5⟩ := h
  have h6 := (keyB_all h2).2.2
  have h7 : x.ky.data.toList.length = x.ky.size := Array.length_toList
  refine ⟨by omega, by omega, by omega, by omega, goodB_in h3, goodB_in h4⟩
theorem wB_small {x : Wr} (h : x.good = true) (hf : x.fits) : (wB x).length ≤ 5000000 := by
  obtain ⟨h1, h2, h3, h4, h5, h6⟩ := good_in h
  obtain ⟨_, _, _, f1, f2⟩ := hf
  unfold wB wrB
  simp only [List.length_append]
  have a1 := numB_small (n := x.dev.toNat) (by omega)
  have a2 := numB_small (n := x.seq.toNat) (by omega)
  have a3 := numB_small (n := x.K.toNat) (by omega)
  have a4 := textB_small (s := x.ky) (by omega)
  have a5 := valB_small (s := x.sa) h5.1 f1.1 f1.2 (by omega)
  have a6 := valB_small (s := x.sb) h6.1 f2.1 f2.2 (by omega)
  omega
theorem refPWr_any (x : Wr) (h : x.good = true) (hf : x.fits) (w : World) :
    Calls Tryd.prog 23 #[.agg x.cells] w fun e w' => (∃ (A : Option Addr) (m c : Nat), e = .returned (.slice A m c) ∧ OwnB w.heap.size w' A m c (wB x) ∧ m ≤ 5000000) ∧ Below w.heap.size w w' := by
  obtain ⟨h1, h2, h3, h4, h5, h6⟩ := good_in h
  obtain ⟨_, _, _, f1, f2⟩ := hf
  have hs := wB_small h ⟨by unfold maxLen; omega, by unfold maxLen; omega, by unfold maxLen; omega, f1, f2⟩
  have k := refPWrite_any x.dev.toNat x.seq.toNat x.K.toNat x.ky x.ka x.na x.sa x.kb x.nb x.sb w (by omega) (by omega) (by omega) (by omega) h5.1 f1.1 f1.2 (by omega) h6.1 f2.1 f2.2 (by omega)
  rw [show wrC x.dev.toNat x.seq.toNat x.K.toNat x.ky x.ka x.na x.sa x.kb x.nb x.sb = x.cells by
    show (#[_, _, _, _, _, _, _, _, _, _] : Array Value) = #[_, _, _, _, _, _, _, _, _, _]
    rw [Int.toNat_of_nonneg (by omega), Int.toNat_of_nonneg (by omega), Int.toNat_of_nonneg (by omega)]] at k
  exact k.mono fun _ _ ⟨⟨A, m, c, he, hO⟩, hb⟩ => ⟨⟨A, m, c, he, hO, by have := hO.len; unfold wB at hs; omega⟩, hb⟩

set_option maxRecDepth 100000 in
set_option maxHeartbeats 4000000 in
theorem refPWrites_any {B : Nat} (A : Option Addr) (n c : Nat) (l : List Wr) (w : World) (hn : l.length = n) (hr : RdW B w A l) (hB : B ≤ w.heap.size) (hm : n ≤ 1000) (hf : ∀ x, x ∈ l → x.fits ∧ x.good = true) :
    Calls Tryd.prog 20 #[.slice A n c] w fun e w' => PutP w (wsB l) e w' := by
  obtain ⟨i0, hi0, hz0, hz1, hz2⟩ := info_parts byt_info
  have HN := Lib.hid hn
  have HR := Lib.hid (fun W hb => hr.keep (W' := W) hb hB)
  have wn : IntKind.u64.wrap (n : Int) = (n : Int) := wrap_size (by omega)
  clear hn hr
  go_enter Tryd.func20, Tryd.ntmps20
  go_wp2_with fail
  refine (refNumber_b n _ hm).mono ?_
  rintro e w1 ⟨⟨A1, m1, c1, rfl, hO1, hm1⟩, hb1⟩
  go_wp2_with fail
  go_loopw [3, 11] (fun out i wr => ∃ (k : Nat) (A3 : Option Addr) (n3 c3 : Nat), k ≤ n ∧ i = .int .i64 k ∧ out = .slice A3 n3 c3 ∧ n3 ≤ 9 + 5000000 * k ∧ OwnB w.heap.size wr A3 n3 c3 (numB n ++ (l.take k).flatMap wB) ∧ Below w.heap.size w wr) (fun _ i _ => n - (intOf i).toNat)
  case atStart => exact ⟨0, A1, m1, c1, Nat.zero_le _, rfl, rfl, by omega, by simpa using hO1, hb1⟩
  case round =>
    clear hO1 hb1 hm1
    obtain ⟨k, A3, n3, d3, hk, rfl, rfl, hn3, hO, hW⟩ := hrel
    by_cases hlt : k < n
    · obtain ⟨x, hx⟩ : ∃ x, l[k]? = some x := ⟨_, List.getElem?_eq_getElem (show k < l.length by have := HN.out; omega)⟩
      obtain ⟨ad, rfl, _, hc⟩ := HR.out wr hW k x hx
      have i1 : (0 : Int) ≤ (k : Int) := by omega
      have i2 : (k : Int) < (n : Int) := by omega
      have HX := Lib.hid hx
      have hfx := hf x (List.mem_of_getElem? hx)
      have HF := Lib.hid hfx
      clear hx hfx
      obtain ⟨c0, c1, c2, c3, c4, c5, c6, c7, c8, c9⟩ := wr_cells hc
      clear hc
      have hE : numB n ++ (l.take k).flatMap wB ++ wB x = numB n ++ (l.take (k + 1)).flatMap wB := by
        rw [List.take_add_one, HX.out]
        simp
      have HE := Lib.hid hE
      clear hE
      go_wp2_with fail
      refine (refPWr_any x HF.out.2 HF.out.1 _).mono ?_
      rintro e w2 ⟨⟨A2, m2, d2, rfl, hO2, hm2⟩, hb2⟩
      have hO3 := hO.keep hb2
      have hW2 := bt hW hb2
      have hz := hW2.size
      clear hO hb2
      go_wp2_with (at_builtin; refine wpList_apB (base := w.heap.size) (n := n3) (m := m2) (l := numB n ++ (l.take k).flatMap wB) (l2 := wB x) (by rfl) _ _ (by rfl) Tryd.underlying22 Tryd.underlying22 hi0 hz0 hz1 hz2 (by rfl) (by rfl) hO3 hO2.rd hO2.len (n3 + m2) rfl (by omega) hz ?_; intro A5 c5 w5 hO5 hb5 hg5)
      rw [HE.out] at hO5
      go_roundw
      case rel => exact ⟨k + 1, A5, n3 + m2, c5, by omega, by go_num, rfl, by omega, hO5, hW2.trans hb5⟩
      case measure => simp [intOf]; omega
    · have hq : ¬ (k : Int) < (n : Int) := by omega
      have hE : numB n ++ (l.take k).flatMap wB = wsB l := by
        unfold wsB
        rw [HN.out, List.take_of_length_le (by have := HN.out; omega)]
      rw [hE] at hO
      go_wp2_with fail
      go_ret
      exact ⟨⟨A3, n3, d3, rfl, hO⟩, hW⟩
end Go.Proofs.YtahmjiomkaibgaaDoor

namespace Go.Proofs.YtahmjiomkaibgaaDoor
open Go.RowKit

set_option maxHeartbeats 1000000 in
theorem goodId_any (dev seq : Int) (w : World) :
    Calls Tryd.prog 73 #[.agg #[.int .i64 dev, .int .i64 seq]] w fun e w' => e = .returned (.bool (idB dev seq)) ∧ Below w.heap.size w w' := by
  go_enter Tryd.func73, Tryd.ntmps73
  go_wp2
  all_goals go_ret
  all_goals refine ⟨ret_bool ?_, b0 _ _⟩
  all_goals unfold idB
  all_goals rw [Bool.eq_iff_iff]
  all_goals simp only [decide_eq_true_eq, Bool.false_eq_true, false_iff] at *
  all_goals omega

set_option maxHeartbeats 2000000 in
theorem stampGood_any (x : Wr) (w : World) (hf : x.fits) :
    Calls Tryd.prog 53 #[.agg x.cells] w fun e w' => e = .returned (.bool x.good) ∧ Below w.heap.size w w' := by
  obtain ⟨dev, seq, K, ky, ka, na, sa, kb, nb, sb⟩ := x
  obtain ⟨hk, ha, hb, -, -⟩ := hf
  dsimp only at hk ha hb
  go_enter Tryd.func53, Tryd.ntmps53
  go_wp2_with fail
  have hC := Lib.hid (blk_new w (wrI dev seq K ky ka na sa kb nb sb) 48)
  have hB := b0 w (.cells (wrI dev seq K ky ka na sa kb nb sb) 48)
  generalize w.alloc (.cells (wrI dev seq K ky ka na sa kb nb sb) 48) = W at hC hB ⊢
  refine (goodId_any _ _ _).mono ?_
  rintro e w1 ⟨rfl, hb1⟩
  replace hB := bt hB hb1
  replace hC := Lib.hid (hC.out.keep hb1)
  clear hb1
  obtain ⟨c0, c1, c2, c3, c4, c5, c6, c7, c8, c9, c10⟩ := blk_c10 hC.out
  cases gi : idB dev seq
  · have R : Hid (Wr.good ⟨dev, seq, K, ky, ka, na, sa, kb, nb, sb⟩ = false) := by show wrGoodB dev seq K ky ka na sa kb nb sb = _; unfold wrGoodB; rw [gi]; rfl
    clear gi
    go_wp2_with fail
    go_ret
    exact ⟨ret_bool R.out.symm, hB⟩
  · have R : Hid (Wr.good ⟨dev, seq, K, ky, ka, na, sa, kb, nb, sb⟩ = opB K ky ka na sa kb nb sb) := by show wrGoodB dev seq K ky ka na sa kb nb sb = _; unfold wrGoodB; rw [gi]; rfl
    clear gi
    go_wp2_with fail
    refine (deedGood_any _ _ _ _ _ _ _ _ _ hk ha hb).mono ?_
    rintro e w2 ⟨rfl, hb2⟩
    replace hB := bt hB hb2
    go_wp2_with fail
    go_ret
    exact ⟨ret_bool R.out.symm, hB⟩
end Go.Proofs.YtahmjiomkaibgaaDoor
