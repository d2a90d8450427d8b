/-
  WHAT IS PROVED: the document's bytes of reaches, cells, lines (spinneyref07.Reach, Cells, Lines). Conditions: those typed in each theorem. · cell.Good answers what the document's Good does, goodB, for every value. No condition. · package pack's reader: Value: what it answers and leaves, as the chapter says. Conditions: those typed in each theorem. · plain facts: the steps by which package pack's reader takes a write come to what the chapter says is taken. No program is spoken of.
-/
import Derived.Test.YtpjleeeligahaaaGreatDoorRRefGood
import Derived.Test.YtpjleeeligahaaaGreatDoorGQ5
import Derived.Test.YtpjleeeligahaaaGreatDoorGQ0
import Derived.Test.YtpjleeeligahaaaGreatDoorGQ1
import Derived.WalkKit
import Derived.WalkSpells
import Derived.WalkLawsBesides
import Derived.Lib.Hide
import Derived.Test.YtpjleeeligahaaaGreatDoorGQ6
namespace Go.Proofs.YtpjleeeligahaaaGreatDoor
open Go.RowKit
attribute [local go_sem ↓] Go.wp_at_zero Go.wp_at_succ

section
variable {w0 W w' w1 : World} {p0 p1 p2 p3 : Addr} {v0 v1 v2 v3 : Value}
theorem fp4_2 (h : w'.cell? p0 = some v0 ∧ w'.cell? p1 = some v1 ∧ w'.cell? p2 = some v2 ∧ w'.cell? p3 = some v3 ∧ Below w0.heap.size w0 w') (l0 : p0.block < w0.heap.size) (l1 : p1.block < w0.heap.size) (l2 : p2.block < w0.heap.size) (l3 : p3.block < w0.heap.size) (hb : Below w0.heap.size w' w1) : w1.cell? p0 = some v0 ∧ w1.cell? p1 = some v1 ∧ w1.cell? p2 = some v2 ∧ w1.cell? p3 = some v3 ∧ Below w0.heap.size w0 w1 :=
  ⟨(hb.cell l0).trans h.1, (hb.cell l1).trans h.2.1, (hb.cell l2).trans h.2.2.1, (hb.cell l3).trans h.2.2.2.1, (h.2.2.2.2).trans hb⟩
end

section
variable {w0 W w' w1 : World} {p0 p1 p2 p3 p4 p5 p6 p7 p8 p9 p10 : Addr} {v0 v1 v2 v3 v4 v5 v6 v7 v8 v9 v10 : Value}
theorem fp11_2 (h : w'.cell? p0 = some v0 ∧ w'.cell? p1 = some v1 ∧ w'.cell? p2 = some v2 ∧ w'.cell? p3 = some v3 ∧ w'.cell? p4 = some v4 ∧ w'.cell? p5 = some v5 ∧ w'.cell? p6 = some v6 ∧ w'.cell? p7 = some v7 ∧ w'.cell? p8 = some v8 ∧ w'.cell? p9 = some v9 ∧ w'.cell? p10 = some v10 ∧ Below w0.heap.size w0 w') (l0 : p0.block < w0.heap.size) (l1 : p1.block < w0.heap.size) (l2 : p2.block < w0.heap.size) (l3 : p3.block < w0.heap.size) (l4 : p4.block < w0.heap.size) (l5 : p5.block < w0.heap.size) (l6 : p6.block < w0.heap.size) (l7 : p7.block < w0.heap.size) (l8 : p8.block < w0.heap.size) (l9 : p9.block < w0.heap.size) (l10 : p10.block < w0.heap.size) (hb : Below w0.heap.size w' w1) : w1.cell? p0 = some v0 ∧ w1.cell? p1 = some v1 ∧ w1.cell? p2 = some v2 ∧ w1.cell? p3 = some v3 ∧ w1.cell? p4 = some v4 ∧ w1.cell? p5 = some v5 ∧ w1.cell? p6 = some v6 ∧ w1.cell? p7 = some v7 ∧ w1.cell? p8 = some v8 ∧ w1.cell? p9 = some v9 ∧ w1.cell? p10 = some v10 ∧ Below w0.heap.size w0 w1 :=
  ⟨(hb.cell l0).trans h.1, (hb.cell l1).trans h.2.1, (hb.cell l2).trans h.2.2.1, (hb.cell l3).trans h.2.2.2.1, (hb.cell l4).trans h.2.2.2.2.1, (hb.cell l5).trans h.2.2.2.2.2.1, (hb.cell l6).trans h.2.2.2.2.2.2.1, (hb.cell l7).trans h.2.2.2.2.2.2.2.1, (hb.cell l8).trans h.2.2.2.2.2.2.2.2.1, (hb.cell l9).trans h.2.2.2.2.2.2.2.2.2.1, (hb.cell l10).trans h.2.2.2.2.2.2.2.2.2.2.1, (h.2.2.2.2.2.2.2.2.2.2.2).trans hb⟩
end

abbrev strCR (x : ByteArray) : Array Value := #[.string x]
theorem refNumber_c (n : Nat) (w : World) (hn : n ≤ 100000) :
    Calls Tryz.prog 36 #[.int .u64 n] w fun e w' => (∃ (A : Option Addr) (m c : Nat), e = .returned (.slice A m c) ∧ OwnB w.heap.size w' A m c (numB n) ∧ m ≤ 9) ∧ Below w.heap.size w w' :=
  (refNumber_any n w (by omega)).mono fun _ _ ⟨⟨A, m, c, he, hO⟩, hb⟩ => ⟨⟨A, m, c, he, hO, by have h1 := hO.len; have h2 := numB_small (n := n) (by omega); omega⟩, hb⟩
theorem take_flatR {α : Type} {E : α → List UInt8} {L : List UInt8} {l : List α} {k : Nat} {x : α} (h : l[k]? = some x) : L ++ (l.take k).flatMap E ++ E x = L ++ (l.take (k + 1)).flatMap E := by
  rw [List.take_add_one, h]
  simp

set_option maxRecDepth 100000 in
set_option maxHeartbeats 8000000 in
theorem refPutL_any {B : Nat} (A : Option Addr) (n c : Nat) (l : List Ln) (w : World) (hn : l.length = n) (hr : RdX 11 B w A (l.map Ln.cells)) (hB : B ≤ w.heap.size) (hm : n ≤ 1000) (hf : ∀ x, x ∈ l → x.good = true ∧ x.fits) :
    Calls Tryz.prog 12 #[.slice A n c] w fun e w' => PutP w (numB n ++ l.flatMap lnB) e w' := by
  obtain ⟨i0, hi0, hz0, hz1', hz2⟩ := info_parts byt_info
  have HN := Lib.hid hn
  have HR := Lib.hid (fun W hb => hr.keep (W' := W) hb hB)
  have wn : IntKind.u64.wrap (n : Int) = (n : Int) := wrap_size (by omega)
  clear hn hr
  go_enter Tryz.func12, Tryz.ntmps12
  go_wp2_with fail
  refine (refNumber_b n _ hm).mono ?_
  rintro e w1 ⟨⟨A1, m1, c1, rfl, hO1, hm1⟩, hb1⟩
  clear wn
  go_wp2_with fail
  go_loopw [3, 11] (fun out i wr => ∃ (k : Nat) (A3 : Option Addr) (n3 c3 : Nat), k ≤ n ∧ i = .int .i64 k ∧ out = .slice A3 n3 c3 ∧ n3 ≤ 9 + 5000009 * k ∧ OwnB w.heap.size wr A3 n3 c3 (numB n ++ (l.take k).flatMap lnB) ∧ Below w.heap.size w wr) (fun _ i _ => n - (intOf i).toNat)
  case atStart => exact ⟨0, A1, m1, c1, Nat.zero_le _, rfl, rfl, by omega, by simpa using hO1, hb1⟩
  case round =>
    clear hO1 hb1 hm1
    obtain ⟨k, A3, n3, d3, hk, rfl, rfl, hn3, hO, hW⟩ := hrel
    by_cases hlt : k < n
    · obtain ⟨x, hx⟩ : ∃ x, l[k]? = some x := ⟨_, List.getElem?_eq_getElem (show k < l.length by have := HN.out; omega)⟩
      obtain ⟨ad, rfl, had, hc⟩ := HR.out wr hW k _ (map_getR hx)
      have i1 : (0 : Int) ≤ (k : Int) := by omega
      have i2 : (k : Int) < (n : Int) := by omega
      have HX := Lib.hid hx
      have HF := Lib.hid (hf x (List.mem_of_getElem? hx))
      clear hx
      obtain ⟨pl, y⟩ := x
      have hpn : pl = ((pl.toNat : Nat) : Int) ∧ pl.toNat ≤ 4095 ∧ y.good = true := by
        obtain ⟨g1, g2⟩ := ln_in HF.out.1
        dsimp only at g1 g2
        exact ⟨by omega, by omega, g2⟩
      generalize pl.toNat = pn at hpn
      obtain rfl := hpn.1
      have q0 : wr.cell? (ad.add (k * 11)) = some (.int .i64 (pn : Int)) := (celX hc).1 _ rfl
      have q1 : wr.cell? ⟨(ad.add (k * 11)).block, (ad.add (k * 11)).off + 1, none⟩ = some (.int .i64 y.dev) := (celX hc).2 0 _ rfl
      have q2 : wr.cell? ⟨(ad.add (k * 11)).block, (ad.add (k * 11)).off + 2, none⟩ = some (.int .i64 y.seq) := (celX hc).2 1 _ rfl
      have q3 : wr.cell? ⟨(ad.add (k * 11)).block, (ad.add (k * 11)).off + 3, none⟩ = some (.int .i64 y.K) := (celX hc).2 2 _ rfl
      have q4 : wr.cell? ⟨(ad.add (k * 11)).block, (ad.add (k * 11)).off + 4, none⟩ = some (.string y.ky) := (celX hc).2 3 _ rfl
      have q5 : wr.cell? ⟨(ad.add (k * 11)).block, (ad.add (k * 11)).off + 5, none⟩ = some (.int .i64 y.ka) := (celX hc).2 4 _ rfl
      have q6 : wr.cell? ⟨(ad.add (k * 11)).block, (ad.add (k * 11)).off + 6, none⟩ = some (.int .i64 y.na) := (celX hc).2 5 _ rfl
      have q7 : wr.cell? ⟨(ad.add (k * 11)).block, (ad.add (k * 11)).off + 7, none⟩ = some (.string y.sa) := (celX hc).2 6 _ rfl
      have q8 : wr.cell? ⟨(ad.add (k * 11)).block, (ad.add (k * 11)).off + 8, none⟩ = some (.int .i64 y.kb) := (celX hc).2 7 _ rfl
      have q9 : wr.cell? ⟨(ad.add (k * 11)).block, (ad.add (k * 11)).off + 9, none⟩ = some (.int .i64 y.nb) := (celX hc).2 8 _ rfl
      have q10 : wr.cell? ⟨(ad.add (k * 11)).block, (ad.add (k * 11)).off + 10, none⟩ = some (.string y.sb) := (celX hc).2 9 _ rfl
      clear hc
      have l0 : (ad.add (k * 11)).block < w.heap.size := by show (ad.add (k * 11)).block < _; rw [add_block]; omega
      have l1 : ((⟨(ad.add (k * 11)).block, (ad.add (k * 11)).off + 1, none⟩ : Addr)).block < w.heap.size := by show (ad.add (k * 11)).block < _; rw [add_block]; omega
      have l2 : ((⟨(ad.add (k * 11)).block, (ad.add (k * 11)).off + 2, none⟩ : Addr)).block < w.heap.size := by show (ad.add (k * 11)).block < _; rw [add_block]; omega
      have l3 : ((⟨(ad.add (k * 11)).block, (ad.add (k * 11)).off + 3, none⟩ : Addr)).block < w.heap.size := by show (ad.add (k * 11)).block < _; rw [add_block]; omega
      have l4 : ((⟨(ad.add (k * 11)).block, (ad.add (k * 11)).off + 4, none⟩ : Addr)).block < w.heap.size := by show (ad.add (k * 11)).block < _; rw [add_block]; omega
      have l5 : ((⟨(ad.add (k * 11)).block, (ad.add (k * 11)).off + 5, none⟩ : Addr)).block < w.heap.size := by show (ad.add (k * 11)).block < _; rw [add_block]; omega
      have l6 : ((⟨(ad.add (k * 11)).block, (ad.add (k * 11)).off + 6, none⟩ : Addr)).block < w.heap.size := by show (ad.add (k * 11)).block < _; rw [add_block]; omega
      have l7 : ((⟨(ad.add (k * 11)).block, (ad.add (k * 11)).off + 7, none⟩ : Addr)).block < w.heap.size := by show (ad.add (k * 11)).block < _; rw [add_block]; omega
      have l8 : ((⟨(ad.add (k * 11)).block, (ad.add (k * 11)).off + 8, none⟩ : Addr)).block < w.heap.size := by show (ad.add (k * 11)).block < _; rw [add_block]; omega
      have l9 : ((⟨(ad.add (k * 11)).block, (ad.add (k * 11)).off + 9, none⟩ : Addr)).block < w.heap.size := by show (ad.add (k * 11)).block < _; rw [add_block]; omega
      have l10 : ((⟨(ad.add (k * 11)).block, (ad.add (k * 11)).off + 10, none⟩ : Addr)).block < w.heap.size := by show (ad.add (k * 11)).block < _; rw [add_block]; omega
      have HN1 := Lib.hid (fun W => refNumber_c pn W (by have := hpn.2.1; omega))
      have HN2 := Lib.hid (fun W => refPWr_any y hpn.2.2 HF.out.2 W)
      have wpl : IntKind.u64.wrap (pn : Int) = (pn : Int) := wrap_size (by have := hpn.2.1; omega)
      clear hpn
      have HE : Hid (numB n ++ (l.take k).flatMap lnB ++ numB pn ++ wB y = numB n ++ (l.take (k + 1)).flatMap lnB) := by
        show _ = _
        rw [← take_flatR (E := lnB) (L := numB n) HX.out]
        unfold lnB
        simp only [Int.toNat_natCast, List.append_assoc]
      go_upto_region 5 with fail
      replace hO := hO.drew_
      go_region_held3 (fun w' => w'.cell? (ad.add (k * 11)) = some (.int .i64 (pn : Int)) ∧ w'.cell? ⟨(ad.add (k * 11)).block, (ad.add (k * 11)).off + 1, none⟩ = some (.int .i64 y.dev) ∧ w'.cell? ⟨(ad.add (k * 11)).block, (ad.add (k * 11)).off + 2, none⟩ = some (.int .i64 y.seq) ∧ w'.cell? ⟨(ad.add (k * 11)).block, (ad.add (k * 11)).off + 3, none⟩ = some (.int .i64 y.K) ∧ w'.cell? ⟨(ad.add (k * 11)).block, (ad.add (k * 11)).off + 4, none⟩ = some (.string y.ky) ∧ w'.cell? ⟨(ad.add (k * 11)).block, (ad.add (k * 11)).off + 5, none⟩ = some (.int .i64 y.ka) ∧ w'.cell? ⟨(ad.add (k * 11)).block, (ad.add (k * 11)).off + 6, none⟩ = some (.int .i64 y.na) ∧ w'.cell? ⟨(ad.add (k * 11)).block, (ad.add (k * 11)).off + 7, none⟩ = some (.string y.sa) ∧ w'.cell? ⟨(ad.add (k * 11)).block, (ad.add (k * 11)).off + 8, none⟩ = some (.int .i64 y.kb) ∧ w'.cell? ⟨(ad.add (k * 11)).block, (ad.add (k * 11)).off + 9, none⟩ = some (.int .i64 y.nb) ∧ w'.cell? ⟨(ad.add (k * 11)).block, (ad.add (k * 11)).off + 10, none⟩ = some (.string y.sb) ∧ Below w.heap.size w w')
        (first | assumption | exact fd11_0 q0 q1 q2 q3 q4 q5 q6 q7 q8 q9 q10 hW | exact fd11_1 (by assumption) (by assumption) | exact fp11_2 (by assumption) l0 l1 l2 l3 l4 l5 l6 l7 l8 l9 l10 (by assumption))
        (first
          | (go_at_call 36; ((with_reducible refine (HN1.out _).mono ?_); rintro e w1 ⟨⟨A1, m1, c1, rfl, hO1, hm1⟩, hb1⟩; replace hO := hO.keep hb1))
          | (refine step_apB (o := ⟨some 22, _, _, _, _, _⟩) (base := w.heap.size) (n := n3) (m := m1) (l := numB n ++ (l.take k).flatMap lnB) (l2 := numB pn) (by rfl) _ _ (by rfl) Tryz.underlying23 Tryz.underlying23 hi0 hz0 hz1' hz2 (by rfl) (by rfl) hO hO1.rd hO1.len (n3 + m1) rfl (by omega) (fd11_b (by assumption)).size ?_; intro A3 c3 w3 hO3 hb3 hg3)
          | (go_at_call 37; ((with_reducible refine (HN2.out _).mono ?_); rintro e w6 ⟨⟨A6, m6, c6, rfl, hO6, hm6⟩, hb6⟩; replace hO3 := hO3.keep hb6))
          | (refine step_apB (o := ⟨some 29, _, _, _, _, _⟩) (base := w.heap.size) (n := n3 + m1) (m := m6) (l := numB n ++ (l.take k).flatMap lnB ++ numB pn) (l2 := wB y) (by rfl) _ _ (by rfl) Tryz.underlying23 Tryz.underlying23 hi0 hz0 hz1' hz2 (by rfl) (by rfl) hO3 hO6.rd hO6.len (n3 + m1 + m6) rfl (by omega) (fd11_b (by assumption)).size ?_; intro A7 c7 w7 hO7 hb7 hg7))
      have hW7 := fd11_b (by assumption : _ ∧ _ ∧ _ ∧ _ ∧ _ ∧ _ ∧ _ ∧ _ ∧ _ ∧ _ ∧ _ ∧ Below w.heap.size w w7)
      rw [HE.out] at hO7
      go_wp2_with fail
      go_roundw
      case rel => exact ⟨k + 1, A7, n3 + m1 + m6, c7, by omega, by go_num, rfl, by omega, hO7, hW7⟩
      case measure => simp [intOf]; omega
    · have hq : ¬ (k : Int) < (n : Int) := by omega
      have hE : numB n ++ (l.take k).flatMap lnB = numB n ++ l.flatMap lnB := by rw [List.take_of_length_le (by have := HN.out; omega)]
      rw [hE] at hO
      clear hE
      go_wp2_with fail
      go_ret
      exact ⟨⟨A3, n3, d3, rfl, hO⟩, hW⟩
end Go.Proofs.YtpjleeeligahaaaGreatDoor

namespace Go.Proofs.YtpjleeeligahaaaGreatDoor
open Go.RowKit

set_option maxHeartbeats 1000000 in
theorem good_any (k n : Int) (s : ByteArray) (w : World) (hs : s.size ≤ maxLen) :
    Calls Tryz.prog 117 #[.agg #[.int .i64 k, .int .i64 n, .string s]] w fun e w' => e = .returned (.bool (goodB k n s)) ∧ Below w.heap.size w w' := by
  unfold maxLen at hs
  go_enter Tryz.func117, Tryz.ntmps117
  go_wp2
  all_goals go_ret
  all_goals refine ⟨ret_bool ?_, b0 _ _⟩
  all_goals unfold goodB
  all_goals rw [Bool.eq_iff_iff]
  all_goals simp only [beq_iff_eq, beq_eq_false_iff_ne, decide_eq_true_eq, isEmpty_iff, Bool.false_eq_true, false_iff] at *
  all_goals omega
end Go.Proofs.YtpjleeeligahaaaGreatDoor

namespace Go.Proofs.YtpjleeeligahaaaGreatDoor
open Go.RowKit

theorem below3_at {B b : Nat} {w W : World} (h : Below B w W) (hb : B ≤ b) (v0 v1 v2 : Value) : Below B w (((W.setCell ⟨b, 0, none⟩ v0).setCell ⟨b, 1, none⟩ v1).setCell ⟨b, 2, none⟩ v2) :=
  ((h.setCell (p := ⟨b, 0, none⟩) hb v0).setCell (p := ⟨b, 1, none⟩) hb v1).setCell (p := ⟨b, 2, none⟩) hb v2

set_option maxRecDepth 100000 in
set_option maxHeartbeats 1000000 in
theorem soundV_any (S : Addr) (g : Nat) (st : Rest) (k x : Int) (s : ByteArray) (w : World) (hR : RdrP S w g st) :
    Calls Tryz.prog 118 #[.pointer (some ⟨g, 0, none⟩), .agg #[.int .i64 k, .int .i64 x, .string s]] w fun e w' => e = .returned (soundM (.agg #[.int .i64 0, .int .i64 0, .string ⟨#[]⟩]) st (.agg #[.int .i64 k, .int .i64 x, .string s])) ∧ Below w.heap.size w w' := by
  have hlt := hR.lt
  cases st with
  | none =>
    obtain ⟨e1, he1, hb⟩ := hR
    obtain ⟨t1, v1, rfl⟩ := errP_nil he1
    have c1 := hb.cell 1
    go_enter Tryz.func118, Tryz.ntmps118
    go_wp2_with fail
    exact bodyPost_ret (v := .agg #[.int .i64 0, .int .i64 0, .string ⟨#[]⟩]) (by simp [results, Tryz.results118, go_sem]) rfl ⟨rfl, by repeat (first | exact Below.refl _ _ | (refine Below.alloc ?_ (by simp <;> omega) _) | (refine Below.setCell ?_ (by simp <;> omega) _))⟩
  | some b =>
    obtain ⟨hl, s1, hs, hb⟩ := hR
    have c1 := hb.cell 1
    go_enter Tryz.func118, Tryz.ntmps118
    go_wp2_with fail
    exact bodyPost_ret (v := .agg #[.int .i64 k, .int .i64 x, .string s]) (by simp [results, Tryz.results118, go_sem]) rfl ⟨rfl, by repeat (first | exact Below.refl _ _ | (refine Below.alloc ?_ (by simp <;> omega) _) | (refine Below.setCell ?_ (by simp <;> omega) _))⟩

theorem getM (st : Rest) (k x : Int) (l : List UInt8) (s : ByteArray) (hs : s.data.toList = l) :
    ∃ s2 : ByteArray, soundM (.agg #[.int .i64 0, .int .i64 0, .string ⟨#[]⟩]) st (.agg #[.int .i64 k, .int .i64 x, .string s]) = Value.agg #[.int .i64 (soundM valZ st (k, x, l)).1, .int .i64 (soundM valZ st (k, x, l)).2.1, .string s2] ∧ s2.data.toList = (soundM valZ st (k, x, l)).2.2 := by
  cases st with
  | none => exact ⟨⟨#[]⟩, rfl, rfl⟩
  | some b => exact ⟨s, rfl, hs⟩
theorem RdrP.set3 {S : Addr} {W : World} {g b : Nat} {st : Rest} (h : RdrP S W g st) (hne : b ≠ g) (v0 v1 v2 : Value) : RdrP S (((W.setCell ⟨b, 0, none⟩ v0).setCell ⟨b, 1, none⟩ v1).setCell ⟨b, 2, none⟩ v2) g st := by
  have hr : some b ≠ some g := by intro e; injection e; omega
  exact ((h.keep set_grown hr).keep set_grown hr).keep set_grown hr
theorem grown_set {w W : World} {g b i : Nat} {v : Value} (h : w.grownBy W (some g)) (hb : w.heap.size ≤ b) : w.grownBy (W.setCell ⟨b, i, none⟩ v) (some g) :=
  h.andThen (set_grown (g := b)) (fun j e => by injection e with e; exact .inl (by omega))
theorem textOf_most (st : Rest) (most : Nat) : (textOf st most).1.length ≤ most := by
  rw [← text_is]
  exact Nat.le_trans (takeM_len _ _) (numOf_lt st most).1
theorem good_one (x : Int) : goodB 1 x ⟨#[]⟩ = true := by
  unfold goodB
  simp
  rfl
theorem good_two (s : ByteArray) (h : s.size ≤ 40) : goodB 2 0 s = true := by
  unfold goodB
  simp [h]
theorem good_nat (k : Nat) (h1 : ¬ k = 1) (h2 : ¬ k = 2) : goodB (k : Int) 0 ⟨#[]⟩ = decide (k = 0) := by
  have h1' : ¬ (k : Int) = 1 := by omega
  have h2' : ¬ (k : Int) = 2 := by omega
  unfold goodB
  rw [Bool.eq_iff_iff]
  simp [h1', h2']
  intro _
  rfl
set_option maxRecDepth 100000 in
set_option maxHeartbeats 2000000 in
theorem rValue_any (S : Addr) (g : Nat) (st : Rest) (w : World) (hL : LaidS S w) (hR : RdrP S w g st) :
    Calls Tryz.prog 72 #[.pointer (some ⟨g, 0, none⟩)] w fun e w' => (∃ s : ByteArray, e = .returned (.agg #[.int .i64 (valOf st).1.1, .int .i64 (valOf st).1.2.1, .string s]) ∧ s.data.toList = (valOf st).1.2.2) ∧ RdrP S w' g (valOf st).2 ∧ w.grownBy w' (some g) := by
  rw [← val_is]
  unfold valM
  have hlt := hR.lt
  have hB := b0 w (.cells #[.int .i64 0, .int .i64 0, .string ⟨#[]⟩] 43)
  have hK0 := blk_new w #[.int .i64 0, .int .i64 0, .string ⟨#[]⟩] 43
  have HL := Lib.hid (fun W' (hg : w.grownBy W' (some g)) => hL.grown hR hg)
  have HM := Lib.hid (fun W (hb : Below w.heap.size w W) => small_any S g st W (hL.keep hb) (hR.below hb))
  have hn := (numOf_lt st 9223372036854775807).1
  generalize numOf st 9223372036854775807 = p at HM hn ⊢
  obtain ⟨k, st1⟩ := p
  dsimp only at HM hn ⊢
  clear hL hR
  have hk3 : k = 1 ∨ k = 2 ∨ (¬ k = 1 ∧ ¬ k = 2) := by omega
  rcases hk3 with rfl | rfl | ⟨hk1, hk2⟩
  · rw [if_pos rfl]
    have HI := Lib.hid (fun W hL hR => rInt_any S g st1 W hL hR)
    generalize intOfR st1 = q at HI ⊢
    obtain ⟨x, st2⟩ := q
    dsimp only at HI ⊢
    go_enter Tryz.func72, Tryz.ntmps72
    go_wp2_with fail
    have hM := HM.out _ hB
    generalize w.alloc (.cells #[.int .i64 0, .int .i64 0, .string ⟨#[]⟩] 43) = W at hB hK0 hM ⊢
    have hG0 := grown_below hB (some g)
    refine hM.mono ?_
    rintro e w1 ⟨rfl, hR1, hg1⟩
    have hK1 := blk_grown hK0 hg1 (by intro e; injection e; omega)
    have hG1 := hG0.trans hg1
    have hvb := hG1.size
    clear hM hK0 hG0 hg1 hB
    generalize hrb : w.heap.size = rb at hK1 hlt ⊢
    go_wp2_with fail
    have hB1 := b0 w1 (.cells #[.int .i64 1, .int .i64 0, .string ⟨#[]⟩] 43)
    have hV1 := blk_new w1 #[.int .i64 1, .int .i64 0, .string ⟨#[]⟩] 43
    have hlg1 := hR1.lt
    have hlb1 := hK1.lt
    replace hK1 := hK1.keep hB1
    replace hR1 := hR1.below hB1
    replace hG1 := hG1.trans (grown_below hB1 (some g))
    generalize w1.alloc (.cells #[.int .i64 1, .int .i64 0, .string ⟨#[]⟩] 43) = W1 at hV1 hK1 hR1 hG1 ⊢
    generalize w1.heap.size = vb at hV1 hlg1 hlb1 hvb ⊢
    have hne1 : vb ≠ g := by omega
    have hne2 : vb ≠ rb := by omega
    have hne3 : rb ≠ g := by omega
    refine (HI.out W1 (HL.out W1 hG1) hR1).mono ?_
    rintro e w2 ⟨rfl, hR2, hg2⟩
    have hV2 := blk_grown hV1 hg2 (by intro e; injection e; omega)
    have hK2 := blk_grown hK1 hg2 (by intro e; injection e; omega)
    have hG2 := hG1.trans hg2
    clear hV1 hK1 hg2 hG1 hR1 hB1
    obtain ⟨c0, c1, c2, c3⟩ := hV2.c3
    obtain ⟨f0, f1, f2⟩ := hV2.f3
    go_wp2_with fail
    have hV3 : Blk (w2.setCell ⟨vb, 1, none⟩ (.int .i64 x)) vb #[.int .i64 1, .int .i64 x, .string ⟨#[]⟩] 43 := hV2.set 1 (.int .i64 x)
    have hK3 := blk_grown hK2 (set_grown (W := w2) (g := vb) (i := 1) (v := (.int .i64 x))) (by intro e; injection e; omega)
    have hR3 := hR2.keep (set_grown (W := w2) (g := vb) (i := 1) (v := (.int .i64 x))) (by intro e; injection e; omega)
    have hG3 := grown_set (i := 1) (v := (.int .i64 x)) hG2 hvb
    clear c0 c1 c2 c3 f0 f1 f2 hV2 hK2 hR2 hG2
    generalize w2.setCell ⟨vb, 1, none⟩ (.int .i64 x) = W2 at hV3 hK3 hR3 hG3 ⊢
    refine (good_any 1 x ⟨#[]⟩ W2 (by decide)).mono ?_
    rintro e w3 ⟨rfl, hb3⟩
    rw [good_one x]
    replace hV3 := hV3.keep hb3
    replace hK3 := hK3.keep hb3
    replace hR3 := hR3.below hb3
    replace hG3 := hG3.trans (grown_below hb3 (some g))
    clear hb3
    obtain ⟨c0, c1, c2, c3⟩ := hV3.c3
    go_wp2_with fail
    refine (must_any S g _ _ _ w3 hR3).mono ?_
    rintro e w4 ⟨rfl, hR4, hg4⟩
    replace hV3 := blk_grown hV3 hg4 (by intro e; injection e; omega)
    replace hK3 := blk_grown hK3 hg4 (by intro e; injection e; omega)
    replace hG3 := hG3.trans hg4
    clear hg4 hR3 c0 c1 c2 c3
    obtain ⟨c0, c1, c2, c3⟩ := hV3.c3
    go_wp2_with fail
    refine (soundV_any S g _ 1 x ⟨#[]⟩ w4 hR4).mono ?_
    rintro e w5 ⟨rfl, hb5⟩
    obtain ⟨s9, e9, hs9⟩ := getM (mustM true st2) 1 x [] ⟨#[]⟩ rfl
    rw [e9]
    replace hK3 := hK3.keep hb5
    replace hR4 := hR4.below hb5
    replace hG3 := hG3.trans (grown_below hb5 (some g))
    have hS9 := Lib.hid hs9
    clear hb5 c0 c1 c2 c3 hV3 e9 hs9
    obtain ⟨c0, c1, c2, c3⟩ := hK3.c3
    obtain ⟨f0, f1, f2⟩ := hK3.f3
    go_wp2_with fail
    exact bodyPost_ret (v := .agg #[.int .i64 (soundM valZ (mustM true st2) (1, x, [])).1, .int .i64 (soundM valZ (mustM true st2) (1, x, [])).2.1, .string s9]) (by simp [results, Tryz.results72, go_sem, c0, c1, c2]) rfl ⟨⟨s9, rfl, hS9.out⟩, hR4.set3 hne3 _ _ _, grown_set (grown_set (grown_set hG3 (by omega)) (by omega)) (by omega)⟩
  · rw [if_neg (by omega), if_pos rfl]
    have HI := Lib.hid (fun W hL hR => rText_any S g st1 40 W hL hR (by omega))
    have h40 := textOf_most st1 40
    generalize textOf st1 40 = q at HI h40 ⊢
    obtain ⟨l, st2⟩ := q
    dsimp only at HI h40 ⊢
    go_enter Tryz.func72, Tryz.ntmps72
    go_wp2_with fail
    have hM := HM.out _ hB
    generalize w.alloc (.cells #[.int .i64 0, .int .i64 0, .string ⟨#[]⟩] 43) = W at hB hK0 hM ⊢
    have hG0 := grown_below hB (some g)
    refine hM.mono ?_
    rintro e w1 ⟨rfl, hR1, hg1⟩
    have hK1 := blk_grown hK0 hg1 (by intro e; injection e; omega)
    have hG1 := hG0.trans hg1
    have hvb := hG1.size
    clear hM hK0 hG0 hg1 hB
    generalize hrb : w.heap.size = rb at hK1 hlt ⊢
    go_wp2_with fail
    have hB1 := b0 w1 (.cells #[.int .i64 2, .int .i64 0, .string ⟨#[]⟩] 43)
    have hV1 := blk_new w1 #[.int .i64 2, .int .i64 0, .string ⟨#[]⟩] 43
    have hlg1 := hR1.lt
    have hlb1 := hK1.lt
    replace hK1 := hK1.keep hB1
    replace hR1 := hR1.below hB1
    replace hG1 := hG1.trans (grown_below hB1 (some g))
    generalize w1.alloc (.cells #[.int .i64 2, .int .i64 0, .string ⟨#[]⟩] 43) = W1 at hV1 hK1 hR1 hG1 ⊢
    generalize w1.heap.size = vb at hV1 hlg1 hlb1 hvb ⊢
    have hne1 : vb ≠ g := by omega
    have hne2 : vb ≠ rb := by omega
    have hne3 : rb ≠ g := by omega
    refine (HI.out W1 (HL.out W1 hG1) hR1).mono ?_
    rintro e w2 ⟨⟨s, rfl, hs⟩, hR2, hg2⟩
    have hV2 := blk_grown hV1 hg2 (by intro e; injection e; omega)
    have hK2 := blk_grown hK1 hg2 (by intro e; injection e; omega)
    have hG2 := hG1.trans hg2
    clear hV1 hK1 hg2 hG1 hR1 hB1
    obtain ⟨c0, c1, c2, c3⟩ := hV2.c3
    obtain ⟨f0, f1, f2⟩ := hV2.f3
    go_wp2_with fail
    have hV3 : Blk (w2.setCell ⟨vb, 2, none⟩ (.string s)) vb #[.int .i64 2, .int .i64 0, .string s] 43 := hV2.set 2 (.string s)
    have hK3 := blk_grown hK2 (set_grown (W := w2) (g := vb) (i := 2) (v := (.string s))) (by intro e; injection e; omega)
    have hR3 := hR2.keep (set_grown (W := w2) (g := vb) (i := 2) (v := (.string s))) (by intro e; injection e; omega)
    have hG3 := grown_set (i := 2) (v := (.string s)) hG2 hvb
    clear c0 c1 c2 c3 f0 f1 f2 hV2 hK2 hR2 hG2
    generalize w2.setCell ⟨vb, 2, none⟩ (.string s) = W2 at hV3 hK3 hR3 hG3 ⊢
    have hs40 : s.size ≤ 40 := by
      have : s.size = s.data.toList.length := Array.length_toList.symm
      rw [this, hs]
      exact h40
    refine (good_any 2 0 s W2 (by unfold maxLen; omega)).mono ?_
    rintro e w3 ⟨rfl, hb3⟩
    rw [good_two s hs40]
    replace hV3 := hV3.keep hb3
    replace hK3 := hK3.keep hb3
    replace hR3 := hR3.below hb3
    replace hG3 := hG3.trans (grown_below hb3 (some g))
    clear hb3
    obtain ⟨c0, c1, c2, c3⟩ := hV3.c3
    go_wp2_with fail
    refine (must_any S g _ _ _ w3 hR3).mono ?_
    rintro e w4 ⟨rfl, hR4, hg4⟩
    replace hV3 := blk_grown hV3 hg4 (by intro e; injection e; omega)
    replace hK3 := blk_grown hK3 hg4 (by intro e; injection e; omega)
    replace hG3 := hG3.trans hg4
    clear hg4 hR3 c0 c1 c2 c3
    obtain ⟨c0, c1, c2, c3⟩ := hV3.c3
    go_wp2_with fail
    refine (soundV_any S g _ 2 0 s w4 hR4).mono ?_
    rintro e w5 ⟨rfl, hb5⟩
    obtain ⟨s9, e9, hs9⟩ := getM (mustM true st2) 2 0 l s hs
    rw [e9]
    replace hK3 := hK3.keep hb5
    replace hR4 := hR4.below hb5
    replace hG3 := hG3.trans (grown_below hb5 (some g))
    have hS9 := Lib.hid hs9
    clear hb5 c0 c1 c2 c3 hV3 e9 hs9
    obtain ⟨c0, c1, c2, c3⟩ := hK3.c3
    obtain ⟨f0, f1, f2⟩ := hK3.f3
    go_wp2_with fail
    exact bodyPost_ret (v := .agg #[.int .i64 (soundM valZ (mustM true st2) (2, 0, l)).1, .int .i64 (soundM valZ (mustM true st2) (2, 0, l)).2.1, .string s9]) (by simp [results, Tryz.results72, go_sem, c0, c1, c2]) rfl ⟨⟨s9, rfl, hS9.out⟩, hR4.set3 hne3 _ _ _, grown_set (grown_set (grown_set hG3 (by omega)) (by omega)) (by omega)⟩
  · rw [if_neg hk1, if_neg hk2]
    have hq1 : ¬ (k : Int) = 1 := by omega
    have hq2 : ¬ (k : Int) = 2 := by omega
    go_enter Tryz.func72, Tryz.ntmps72
    go_wp2_with fail
    have hM := HM.out _ hB
    generalize w.alloc (.cells #[.int .i64 0, .int .i64 0, .string ⟨#[]⟩] 43) = W at hB hK0 hM ⊢
    have hG0 := grown_below hB (some g)
    refine hM.mono ?_
    rintro e w1 ⟨rfl, hR1, hg1⟩
    have hK1 := blk_grown hK0 hg1 (by intro e; injection e; omega)
    have hG1 := hG0.trans hg1
    have hvb := hG1.size
    clear hM hK0 hG0 hg1 hB
    generalize hrb : w.heap.size = rb at hK1 hlt ⊢
    go_wp2_with fail
    have hB1 := b0 w1 (.cells #[.int .i64 k, .int .i64 0, .string ⟨#[]⟩] 43)
    have hV1 := blk_new w1 #[.int .i64 k, .int .i64 0, .string ⟨#[]⟩] 43
    have hlg1 := hR1.lt
    have hlb1 := hK1.lt
    replace hK1 := hK1.keep hB1
    replace hR1 := hR1.below hB1
    replace hG1 := hG1.trans (grown_below hB1 (some g))
    generalize w1.alloc (.cells #[.int .i64 k, .int .i64 0, .string ⟨#[]⟩] 43) = W1 at hV1 hK1 hR1 hG1 ⊢
    generalize w1.heap.size = vb at hV1 hlg1 hlb1 hvb ⊢
    have hne1 : vb ≠ g := by omega
    have hne2 : vb ≠ rb := by omega
    have hne3 : rb ≠ g := by omega
    have hV3 := hV1
    have hK3 := hK1
    have hR3 := hR1
    have hG3 := hG1
    clear hV1 hK1 hR1 hG1 hB1
    have hzz : soundM valZ (mustM (decide (k = 0)) st1) ((k : Int), 0, []) = valZ := by
      by_cases hk0 : k = 0
      · subst hk0
        cases st1 <;> rfl
      · simp [mustM, hk0, soundM]
    generalize W1 = W2 at hV3 hK3 hR3 hG3 ⊢
    refine (good_any k 0 ⟨#[]⟩ W2 (by decide)).mono ?_
    rintro e w3 ⟨rfl, hb3⟩
    rw [good_nat k hk1 hk2]
    replace hV3 := hV3.keep hb3
    replace hK3 := hK3.keep hb3
    replace hR3 := hR3.below hb3
    replace hG3 := hG3.trans (grown_below hb3 (some g))
    clear hb3
    obtain ⟨c0, c1, c2, c3⟩ := hV3.c3
    go_wp2_with fail
    refine (must_any S g _ _ _ w3 hR3).mono ?_
    rintro e w4 ⟨rfl, hR4, hg4⟩
    replace hV3 := blk_grown hV3 hg4 (by intro e; injection e; omega)
    replace hK3 := blk_grown hK3 hg4 (by intro e; injection e; omega)
    replace hG3 := hG3.trans hg4
    clear hg4 hR3 c0 c1 c2 c3
    obtain ⟨c0, c1, c2, c3⟩ := hV3.c3
    go_wp2_with fail
    refine (soundV_any S g _ k 0 ⟨#[]⟩ w4 hR4).mono ?_
    rintro e w5 ⟨rfl, hb5⟩
    obtain ⟨s9, e9, hs9⟩ := getM (mustM (decide (k = 0)) st1) k 0 [] ⟨#[]⟩ rfl
    rw [hzz] at e9 hs9
    rw [e9]
    replace hK3 := hK3.keep hb5
    replace hR4 := hR4.below hb5
    replace hG3 := hG3.trans (grown_below hb5 (some g))
    have hS9 := Lib.hid hs9
    clear hb5 c0 c1 c2 c3 hV3 e9 hs9
    obtain ⟨c0, c1, c2, c3⟩ := hK3.c3
    obtain ⟨f0, f1, f2⟩ := hK3.f3
    go_wp2_with fail
    exact bodyPost_ret (v := .agg #[.int .i64 valZ.1, .int .i64 valZ.2.1, .string s9]) (by simp [results, Tryz.results72, go_sem, c0, c1, c2]) rfl ⟨⟨s9, rfl, hS9.out⟩, hR4.set3 hne3 _ _ _, grown_set (grown_set (grown_set hG3 (by omega)) (by omega)) (by omega)⟩
end Go.Proofs.YtpjleeeligahaaaGreatDoor

namespace Go.Proofs.YtpjleeeligahaaaGreatDoor

/-- What a reader takes of a write behind its three numbers. -/
def wrX (d q kk : Nat) (st3 : Rest) : Wr := ⟨(d : Int), (q : Int), (kk : Int), ⟨(textOf st3 20).1.toArray⟩, (valOf (textOf st3 20).2).1.1, (valOf (textOf st3 20).2).1.2.1, ⟨(valOf (textOf st3 20).2).1.2.2.toArray⟩, (valOf (valOf (textOf st3 20).2).2).1.1, (valOf (valOf (textOf st3 20).2).2).1.2.1, ⟨(valOf (valOf (textOf st3 20).2).2).1.2.2.toArray⟩⟩
def wrS (d q kk : Nat) (st3 : Rest) : Rest := mustM (wrX d q kk st3).good (valOf (valOf (textOf st3 20).2).2).2
def wrC2 (d q kk : Nat) (st3 : Rest) : Wr × Rest := (soundM wrNo (wrS d q kk st3) (wrX d q kk st3), wrS d q kk st3)
def wrM (m : Nat) (st : Rest) : Wr × Rest := wrC2 (numOf st m).1 (numOf (numOf st m).2 m).1 (numOf (numOf (numOf st m).2 m).2 m).1 (numOf (numOf (numOf st m).2 m).2 m).2
theorem wrC_none (d q kk : Nat) : wrC2 d q kk none = (wrNo, none) := by
  have e : wrS d q kk none = none := mustM_none _
  unfold wrC2
  rw [e]
  rfl
theorem wrC_bad {d q kk : Nat} {st3 : Rest} (h : (wrX d q kk st3).good = false) : wrC2 d q kk st3 = (wrNo, none) := by
  have e : wrS d q kk st3 = none := by unfold wrS; rw [h]; rfl
  unfold wrC2
  rw [e]
  rfl
theorem wrC_big {d q kk : Nat} (st3 : Rest) (h : 1000 < d ∨ 1000 < q ∨ 1000 < kk) : wrC2 d q kk st3 = (wrNo, none) := by
  refine wrC_bad ?_
  cases hg : (wrX d q kk st3).good with
  | false => rfl
  | true =>
    have := good_in hg
    have h1 : (wrX d q kk st3).dev = (d : Int) := rfl
    have h2 : (wrX d q kk st3).seq = (q : Int) := rfl
    have h3 : (wrX d q kk st3).K = (kk : Int) := rfl
    rw [h1, h2, h3] at this
    omega
theorem wrM_less (st : Rest) : wrM 9223372036854775807 st = wrM 1000 st := by
  have hM : (1000 : Nat) ≤ 9223372036854775807 := by omega
  unfold wrM
  have e1 := numOf_most st hM
  by_cases h1 : (numOf st 9223372036854775807).1 ≤ 1000
  · rw [if_pos h1] at e1
    rw [e1]
    generalize numOf st 9223372036854775807 = p1
    have e2 := numOf_most p1.2 hM
    by_cases h2 : (numOf p1.2 9223372036854775807).1 ≤ 1000
    · rw [if_pos h2] at e2
      rw [e2]
      generalize numOf p1.2 9223372036854775807 = p2
      have e3 := numOf_most p2.2 hM
      by_cases h3 : (numOf p2.2 9223372036854775807).1 ≤ 1000
      · rw [if_pos h3] at e3
        rw [e3]
      · rw [if_neg h3] at e3
        rw [e3, wrC_big _ (by omega)]
        exact (wrC_none _ _ _).symm
    · rw [if_neg h2] at e2
      rw [e2, wrC_big _ (by omega)]
      exact (wrC_none _ _ _).symm
  · rw [if_neg h1] at e1
    rw [e1, wrC_big _ (by omega)]
    exact (wrC_none _ _ _).symm

theorem numOf_at (l : List UInt8) (j : Nat) : numOf (some (l.drop (posW l j))) 1000 = if (numW l j).2 = 0 then (0, none) else ((numW l j).1, some (l.drop (posW l (j + 1)))) := by
  rw [posW_succ, ← List.drop_drop]
  rfl
theorem wr_is (st : Rest) : wrM 9223372036854775807 st = wrOf st := by
  rw [wrM_less]
  cases st with
  | none => exact wrC_none _ _ _
  | some l =>
    have hno : ¬ stdW l → wrOf (some l) = (wrNo, none) := fun h => by
      unfold wrOf
      dsimp only
      rw [takeWr_no h]
      rfl
    unfold wrM
    have e0 : numOf (some l) 1000 = if (numW l 0).2 = 0 then (0, none) else ((numW l 0).1, some (l.drop (posW l 1))) := numOf_at l 0
    by_cases h0 : (numW l 0).2 = 0
    · rw [if_pos h0] at e0
      rw [e0, hno (fun h => h.1 0 (by omega) h0)]
      exact wrC_none _ _ _
    rw [if_neg h0] at e0
    rw [e0]
    dsimp only
    have e1 : numOf (some (l.drop (posW l 1))) 1000 = if (numW l 1).2 = 0 then (0, none) else ((numW l 1).1, some (l.drop (posW l 2))) := numOf_at l 1
    by_cases h1 : (numW l 1).2 = 0
    · rw [if_pos h1] at e1
      rw [e1, hno (fun h => h.1 1 (by omega) h1)]
      exact wrC_none _ _ _
    rw [if_neg h1] at e1
    rw [e1]
    dsimp only
    have e2 : numOf (some (l.drop (posW l 2))) 1000 = if (numW l 2).2 = 0 then (0, none) else ((numW l 2).1, some (l.drop (posW l 3))) := numOf_at l 2
    by_cases h2 : (numW l 2).2 = 0
    · rw [if_pos h2] at e2
      rw [e2, hno (fun h => h.1 2 (by omega) h2)]
      exact wrC_none _ _ _
    rw [if_neg h2] at e2
    rw [e2]
    dsimp only
    have e3 : textOf (some (l.drop (posW l 3))) 20 = if (textW l).2 = 0 then ([], none) else ((textW l).1, some (l.drop (posW l 3 + (textW l).2))) := by
      rw [← List.drop_drop]
      rfl
    have e4 : valOf (some (l.drop (posW l 3 + (textW l).2))) = if (val1W l).2 = 0 then (valZ, none) else ((val1W l).1, some (l.drop (posW l 3 + (textW l).2 + (val1W l).2))) := by
      rw [show l.drop (posW l 3 + (textW l).2 + (val1W l).2) = (l.drop (posW l 3 + (textW l).2)).drop (val1W l).2 from List.drop_drop.symm]
      rfl
    have e5 : valOf (some (l.drop (posW l 3 + (textW l).2 + (val1W l).2))) = if (val2W l).2 = 0 then (valZ, none) else ((val2W l).1, some (l.drop (posW l 3 + (textW l).2 + (val1W l).2 + (val2W l).2))) := by
      rw [show l.drop (posW l 3 + (textW l).2 + (val1W l).2 + (val2W l).2) = (l.drop (posW l 3 + (textW l).2 + (val1W l).2)).drop (val2W l).2 from List.drop_drop.symm]
      rfl
    have hz : valOf none = (valZ, none) := rfl
    by_cases h3 : (textW l).2 = 0
    · rw [if_pos h3] at e3
      rw [hno (fun h => h.2.1 h3)]
      unfold wrC2 wrS
      rw [e3]
      dsimp only
      rw [hz]
      dsimp only
      rw [hz, mustM_none]
      rfl
    rw [if_neg h3] at e3
    by_cases h4 : (val1W l).2 = 0
    · rw [if_pos h4] at e4
      rw [hno (fun h => h.2.2.1 h4)]
      unfold wrC2 wrS
      rw [e3]
      dsimp only
      rw [e4]
      dsimp only
      rw [hz, mustM_none]
      rfl
    rw [if_neg h4] at e4
    by_cases h5 : (val2W l).2 = 0
    · rw [if_pos h5] at e5
      rw [hno (fun h => h.2.2.2.1 h5)]
      unfold wrC2 wrS
      rw [e3]
      dsimp only
      rw [e4]
      dsimp only
      rw [e5, mustM_none]
      rfl
    rw [if_neg h5] at e5
    have ex : wrX (numW l 0).1 (numW l 1).1 (numW l 2).1 (some (l.drop (posW l 3))) = gotW l := by
      simp only [wrX, e3, e4, e5, gotW]
    have es : wrS (numW l 0).1 (numW l 1).1 (numW l 2).1 (some (l.drop (posW l 3))) = mustM (gotW l).good (some (l.drop (posW l 3 + (textW l).2 + (val1W l).2 + (val2W l).2))) := by
      unfold wrS
      rw [ex, e3]
      dsimp only
      rw [e4]
      dsimp only
      rw [e5]
    unfold wrC2
    rw [ex, es]
    cases hg : (gotW l).good with
    | false =>
      rw [hno (fun h => by have h9 := h.2.2.2.2; rw [hg] at h9; cases h9)]
      rfl
    | true =>
      have hstd : stdW l := ⟨fun m hm => by
        have : m = 0 ∨ m = 1 ∨ m = 2 := by omega
        rcases this with rfl | rfl | rfl
        · exact h0
        · exact h1
        · exact h2, h3, h4, h5, hg⟩
      unfold wrOf
      dsimp only
      rw [takeWr_yes hstd]
      have hpos : ¬ posW l 3 + (textW l).2 + (val1W l).2 + (val2W l).2 = 0 := by omega
      rw [if_neg hpos]
      rfl

theorem int_fits (st : Rest) : -9223372036854775808 ≤ (intOfR st).1 ∧ (intOfR st).1 ≤ 9223372036854775807 := by
  cases st with
  | none => exact ⟨by show (-9223372036854775808 : Int) ≤ 0; omega, by show (0 : Int) ≤ 9223372036854775807; omega⟩
  | some b =>
    unfold intOfR takeIntB
    dsimp only
    by_cases h : (takeNum b 18446744073709551615).2 = 0
    · rw [if_pos h]
      exact ⟨by show (-9223372036854775808 : Int) ≤ 0; omega, by show (0 : Int) ≤ 9223372036854775807; omega⟩
    · rw [if_neg h]
      exact unzig_in (num_take (show takeNum b 18446744073709551615 = ((takeNum b 18446744073709551615).1, (takeNum b 18446744073709551615).2) from rfl) h).2.1
theorem val_fits (st : Rest) : (-9223372036854775808 ≤ (valOf st).1.2.1 ∧ (valOf st).1.2.1 ≤ 9223372036854775807) ∧ (valOf st).1.2.2.length ≤ 40 := by
  have hz : ((-9223372036854775808 : Int) ≤ valZ.2.1 ∧ valZ.2.1 ≤ 9223372036854775807) ∧ valZ.2.2.length ≤ 40 := ⟨⟨by show (-9223372036854775808 : Int) ≤ 0; omega, by show (0 : Int) ≤ 9223372036854775807; omega⟩, Nat.zero_le _⟩
  have hs : ∀ (st : Rest) (v : Int × Int × List UInt8), ((-9223372036854775808 ≤ v.2.1 ∧ v.2.1 ≤ 9223372036854775807) ∧ v.2.2.length ≤ 40) → ((-9223372036854775808 ≤ (soundM valZ st v).2.1 ∧ (soundM valZ st v).2.1 ≤ 9223372036854775807) ∧ (soundM valZ st v).2.2.length ≤ 40) := by
    intro st v hv
    cases st with
    | none => exact hz
    | some b => exact hv
  rw [← val_is]
  unfold valM
  split
  · exact hs _ _ ⟨int_fits _, Nat.zero_le _⟩
  · split
    · exact hs _ _ ⟨⟨by show (-9223372036854775808 : Int) ≤ 0; omega, by show (0 : Int) ≤ 9223372036854775807; omega⟩, by rw [← text_is]; exact Nat.le_trans (takeM_len _ _) (numOf_lt _ 40).1⟩
    · exact hz
end Go.Proofs.YtpjleeeligahaaaGreatDoor
