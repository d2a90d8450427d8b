/-
  WHAT IS PROVED: the document's bytes of reaches, cells, lines (spinneyref07.Reach, Cells, Lines). Conditions: those typed in each theorem.
-/
import Derived.Test.YtnlnbgcmmlpniaaGreatDoorRRefGood
import Derived.Test.YtnlnbgcmmlpniaaGreatDoorM2
namespace Go.Proofs.YtnlnbgcmmlpniaaGreatDoor
open Go.RowKit
attribute [local go_sem ↓] Go.wp_at_zero Go.wp_at_succ

section
variable {w0 W w' w1 : World} {p0 p1 p2 p3 : Addr} {v0 v1 v2 v3 : Value}
theorem fp4_2 (h : w'.cell? p0 = some v0 ∧ w'.cell? p1 = some v1 ∧ w'.cell? p2 = some v2 ∧ w'.cell? p3 = some v3 ∧ Below w0.heap.size w0 w') (l0 : p0.block < w0.heap.size) (l1 : p1.block < w0.heap.size) (l2 : p2.block < w0.heap.size) (l3 : p3.block < w0.heap.size) (hb : Below w0.heap.size w' w1) : w1.cell? p0 = some v0 ∧ w1.cell? p1 = some v1 ∧ w1.cell? p2 = some v2 ∧ w1.cell? p3 = some v3 ∧ Below w0.heap.size w0 w1 :=
  ⟨(hb.cell l0).trans h.1, (hb.cell l1).trans h.2.1, (hb.cell l2).trans h.2.2.1, (hb.cell l3).trans h.2.2.2.1, (h.2.2.2.2).trans hb⟩
end

section
variable {w0 W w' w1 : World} {p0 p1 p2 p3 p4 p5 p6 p7 p8 p9 p10 : Addr} {v0 v1 v2 v3 v4 v5 v6 v7 v8 v9 v10 : Value}
theorem fp11_2 (h : w'.cell? p0 = some v0 ∧ w'.cell? p1 = some v1 ∧ w'.cell? p2 = some v2 ∧ w'.cell? p3 = some v3 ∧ w'.cell? p4 = some v4 ∧ w'.cell? p5 = some v5 ∧ w'.cell? p6 = some v6 ∧ w'.cell? p7 = some v7 ∧ w'.cell? p8 = some v8 ∧ w'.cell? p9 = some v9 ∧ w'.cell? p10 = some v10 ∧ Below w0.heap.size w0 w') (l0 : p0.block < w0.heap.size) (l1 : p1.block < w0.heap.size) (l2 : p2.block < w0.heap.size) (l3 : p3.block < w0.heap.size) (l4 : p4.block < w0.heap.size) (l5 : p5.block < w0.heap.size) (l6 : p6.block < w0.heap.size) (l7 : p7.block < w0.heap.size) (l8 : p8.block < w0.heap.size) (l9 : p9.block < w0.heap.size) (l10 : p10.block < w0.heap.size) (hb : Below w0.heap.size w' w1) : w1.cell? p0 = some v0 ∧ w1.cell? p1 = some v1 ∧ w1.cell? p2 = some v2 ∧ w1.cell? p3 = some v3 ∧ w1.cell? p4 = some v4 ∧ w1.cell? p5 = some v5 ∧ w1.cell? p6 = some v6 ∧ w1.cell? p7 = some v7 ∧ w1.cell? p8 = some v8 ∧ w1.cell? p9 = some v9 ∧ w1.cell? p10 = some v10 ∧ Below w0.heap.size w0 w1 :=
  ⟨(hb.cell l0).trans h.1, (hb.cell l1).trans h.2.1, (hb.cell l2).trans h.2.2.1, (hb.cell l3).trans h.2.2.2.1, (hb.cell l4).trans h.2.2.2.2.1, (hb.cell l5).trans h.2.2.2.2.2.1, (hb.cell l6).trans h.2.2.2.2.2.2.1, (hb.cell l7).trans h.2.2.2.2.2.2.2.1, (hb.cell l8).trans h.2.2.2.2.2.2.2.2.1, (hb.cell l9).trans h.2.2.2.2.2.2.2.2.2.1, (hb.cell l10).trans h.2.2.2.2.2.2.2.2.2.2.1, (h.2.2.2.2.2.2.2.2.2.2.2).trans hb⟩
end

abbrev strCR (x : ByteArray) : Array Value := #[.string x]
theorem refNumber_c (n : Nat) (w : World) (hn : n ≤ 100000) :
    Calls Tryz.prog 49 #[.int .u64 n] w fun e w' => (∃ (A : Option Addr) (m c : Nat), e = .returned (.slice A m c) ∧ OwnB w.heap.size w' A m c (numB n) ∧ m ≤ 9) ∧ Below w.heap.size w w' :=
  (refNumber_any n w (by omega)).mono fun _ _ ⟨⟨A, m, c, he, hO⟩, hb⟩ => ⟨⟨A, m, c, he, hO, by have h1 := hO.len; have h2 := numB_small (n := n) (by omega); omega⟩, hb⟩
theorem take_flatR {α : Type} {E : α → List UInt8} {L : List UInt8} {l : List α} {k : Nat} {x : α} (h : l[k]? = some x) : L ++ (l.take k).flatMap E ++ E x = L ++ (l.take (k + 1)).flatMap E := by
  rw [List.take_add_one, h]
  simp

set_option maxRecDepth 100000 in
set_option maxHeartbeats 8000000 in
theorem refPutR_any {B : Nat} (A : Option Addr) (n c : Nat) (l : List ByteArray) (w : World) (hn : l.length = n) (hr : RdX 1 B w A (l.map strCR)) (hB : B ≤ w.heap.size) (hm : n ≤ 1000) (hf : ∀ x, x ∈ l → x.size ≤ 1000) :
    Calls Tryz.prog 14 #[.slice A n c] w fun e w' => PutP w (numB n ++ l.flatMap (fun s : ByteArray => textB s.data.toList)) e w' := by
  obtain ⟨i0, hi0, hz0, hz1', hz2⟩ := info_parts byt_info
  have HN := Lib.hid hn
  have HR := Lib.hid (fun W hb => hr.keep (W' := W) hb hB)
  have wn : IntKind.u64.wrap (n : Int) = (n : Int) := wrap_size (by omega)
  clear hn hr
  go_enter Tryz.func14, Tryz.ntmps14
  go_wp2_with fail
  refine (refNumber_b n _ hm).mono ?_
  rintro e w1 ⟨⟨A1, m1, c1, rfl, hO1, hm1⟩, hb1⟩
  clear wn
  go_wp2_with fail
  go_loopw [3, 11] (fun out i wr => ∃ (k : Nat) (A3 : Option Addr) (n3 c3 : Nat), k ≤ n ∧ i = .int .i64 k ∧ out = .slice A3 n3 c3 ∧ n3 ≤ 9 + 1000009 * k ∧ OwnB w.heap.size wr A3 n3 c3 (numB n ++ (l.take k).flatMap (fun s : ByteArray => textB s.data.toList)) ∧ Below w.heap.size w wr) (fun _ i _ => n - (intOf i).toNat)
  case atStart => exact ⟨0, A1, m1, c1, Nat.zero_le _, rfl, rfl, by omega, by simpa using hO1, hb1⟩
  case round =>
    clear hO1 hb1 hm1
    obtain ⟨k, A3, n3, d3, hk, rfl, rfl, hn3, hO, hW⟩ := hrel
    by_cases hlt : k < n
    · obtain ⟨x, hx⟩ : ∃ x, l[k]? = some x := ⟨_, List.getElem?_eq_getElem (show k < l.length by have := HN.out; omega)⟩
      obtain ⟨ad, rfl, had, hc⟩ := HR.out wr hW k _ (map_getR hx)
      have i1 : (0 : Int) ≤ (k : Int) := by omega
      have i2 : (k : Int) < (n : Int) := by omega
      have HX := Lib.hid hx
      have HF := Lib.hid (hf x (List.mem_of_getElem? hx))
      clear hx
      have q0 : wr.cell? (ad.add k) = some (.string x) := by have := hc 0 _ rfl; simpa using this
      clear hc
      have HT := Lib.hid (fun W => refPText_b x W HF.out)
      have HE := Lib.hid (take_flatR (E := (fun s : ByteArray => textB s.data.toList)) (L := numB n) HX.out)
      go_wp2_with fail
      refine (HT.out wr).mono ?_
      rintro e w2 ⟨⟨A2, m2, d2, rfl, hO2, hm2⟩, hb2⟩
      have hO3 := hO.keep hb2
      have hW2 := bt hW hb2
      have hz := hW2.size
      clear hO hb2
      go_wp2_with (at_builtin; refine wpList_apB (base := w.heap.size) (n := n3) (m := m2) (l := numB n ++ (l.take k).flatMap (fun s : ByteArray => textB s.data.toList)) (l2 := textB x.data.toList) (by rfl) _ _ (by rfl) Tryz.underlying29 Tryz.underlying29 hi0 hz0 hz1' hz2 (by rfl) (by rfl) hO3 hO2.rd hO2.len (n3 + m2) rfl (by omega) hz ?_; intro A5 c5 w5 hO5 hb5 hg5)
      have hO6 : OwnB w.heap.size w5 A5 (n3 + m2) c5 (numB n ++ (l.take (k + 1)).flatMap (fun s : ByteArray => textB s.data.toList)) := by rw [← HE.out]; exact hO5
      go_roundw
      case rel => exact ⟨k + 1, A5, n3 + m2, c5, by omega, by go_num, rfl, by omega, hO6, hW2.trans hb5⟩
      case measure => simp [intOf]; omega
    · have hq : ¬ (k : Int) < (n : Int) := by omega
      have hE : numB n ++ (l.take k).flatMap (fun s : ByteArray => textB s.data.toList) = numB n ++ l.flatMap (fun s : ByteArray => textB s.data.toList) := by rw [List.take_of_length_le (by have := HN.out; omega)]
      rw [hE] at hO
      clear hE
      go_wp2_with fail
      go_ret
      exact ⟨⟨A3, n3, d3, rfl, hO⟩, hW⟩

set_option maxRecDepth 100000 in
set_option maxHeartbeats 8000000 in
theorem refPutL_any {B : Nat} (A : Option Addr) (n c : Nat) (l : List Ln) (w : World) (hn : l.length = n) (hr : RdX 11 B w A (l.map Ln.cells)) (hB : B ≤ w.heap.size) (hm : n ≤ 1000) (hf : ∀ x, x ∈ l → x.good = true ∧ x.fits) :
    Calls Tryz.prog 22 #[.slice A n c] w fun e w' => PutP w (numB n ++ l.flatMap lnB) e w' := by
  obtain ⟨i0, hi0, hz0, hz1', hz2⟩ := info_parts byt_info
  have HN := Lib.hid hn
  have HR := Lib.hid (fun W hb => hr.keep (W' := W) hb hB)
  have wn : IntKind.u64.wrap (n : Int) = (n : Int) := wrap_size (by omega)
  clear hn hr
  go_enter Tryz.func22, Tryz.ntmps22
  go_wp2_with fail
  refine (refNumber_b n _ hm).mono ?_
  rintro e w1 ⟨⟨A1, m1, c1, rfl, hO1, hm1⟩, hb1⟩
  clear wn
  go_wp2_with fail
  go_loopw [3, 11] (fun out i wr => ∃ (k : Nat) (A3 : Option Addr) (n3 c3 : Nat), k ≤ n ∧ i = .int .i64 k ∧ out = .slice A3 n3 c3 ∧ n3 ≤ 9 + 5000009 * k ∧ OwnB w.heap.size wr A3 n3 c3 (numB n ++ (l.take k).flatMap lnB) ∧ Below w.heap.size w wr) (fun _ i _ => n - (intOf i).toNat)
  case atStart => exact ⟨0, A1, m1, c1, Nat.zero_le _, rfl, rfl, by omega, by simpa using hO1, hb1⟩
  case round =>
    clear hO1 hb1 hm1
    obtain ⟨k, A3, n3, d3, hk, rfl, rfl, hn3, hO, hW⟩ := hrel
    by_cases hlt : k < n
    · obtain ⟨x, hx⟩ : ∃ x, l[k]? = some x := ⟨_, List.getElem?_eq_getElem (show k < l.length by have := HN.out; omega)⟩
      obtain ⟨ad, rfl, had, hc⟩ := HR.out wr hW k _ (map_getR hx)
      have i1 : (0 : Int) ≤ (k : Int) := by omega
      have i2 : (k : Int) < (n : Int) := by omega
      have HX := Lib.hid hx
      have HF := Lib.hid (hf x (List.mem_of_getElem? hx))
      clear hx
      obtain ⟨pl, y⟩ := x
      have hpn : pl = ((pl.toNat : Nat) : Int) ∧ pl.toNat ≤ 4095 ∧ y.good = true := by
        obtain ⟨g1, g2⟩ := ln_in HF.out.1
        dsimp only at g1 g2
        exact ⟨by omega, by omega, g2⟩
      generalize pl.toNat = pn at hpn
      obtain rfl := hpn.1
      have q0 : wr.cell? (ad.add (k * 11)) = some (.int .i64 (pn : Int)) := (celX hc).1 _ rfl
      have q1 : wr.cell? ⟨(ad.add (k * 11)).block, (ad.add (k * 11)).off + 1, none⟩ = some (.int .i64 y.dev) := (celX hc).2 0 _ rfl
      have q2 : wr.cell? ⟨(ad.add (k * 11)).block, (ad.add (k * 11)).off + 2, none⟩ = some (.int .i64 y.seq) := (celX hc).2 1 _ rfl
      have q3 : wr.cell? ⟨(ad.add (k * 11)).block, (ad.add (k * 11)).off + 3, none⟩ = some (.int .i64 y.K) := (celX hc).2 2 _ rfl
      have q4 : wr.cell? ⟨(ad.add (k * 11)).block, (ad.add (k * 11)).off + 4, none⟩ = some (.string y.ky) := (celX hc).2 3 _ rfl
      have q5 : wr.cell? ⟨(ad.add (k * 11)).block, (ad.add (k * 11)).off + 5, none⟩ = some (.int .i64 y.ka) := (celX hc).2 4 _ rfl
      have q6 : wr.cell? ⟨(ad.add (k * 11)).block, (ad.add (k * 11)).off + 6, none⟩ = some (.int .i64 y.na) := (celX hc).2 5 _ rfl
      have q7 : wr.cell? ⟨(ad.add (k * 11)).block, (ad.add (k * 11)).off + 7, none⟩ = some (.string y.sa) := (celX hc).2 6 _ rfl
      have q8 : wr.cell? ⟨(ad.add (k * 11)).block, (ad.add (k * 11)).off + 8, none⟩ = some (.int .i64 y.kb) := (celX hc).2 7 _ rfl
      have q9 : wr.cell? ⟨(ad.add (k * 11)).block, (ad.add (k * 11)).off + 9, none⟩ = some (.int .i64 y.nb) := (celX hc).2 8 _ rfl
      have q10 : wr.cell? ⟨(ad.add (k * 11)).block, (ad.add (k * 11)).off + 10, none⟩ = some (.string y.sb) := (celX hc).2 9 _ rfl
      clear hc
      have l0 : (ad.add (k * 11)).block < w.heap.size := by show (ad.add (k * 11)).block < _; rw [add_block]; omega
      have l1 : ((⟨(ad.add (k * 11)).block, (ad.add (k * 11)).off + 1, none⟩ : Addr)).block < w.heap.size := by show (ad.add (k * 11)).block < _; rw [add_block]; omega
      have l2 : ((⟨(ad.add (k * 11)).block, (ad.add (k * 11)).off + 2, none⟩ : Addr)).block < w.heap.size := by show (ad.add (k * 11)).block < _; rw [add_block]; omega
      have l3 : ((⟨(ad.add (k * 11)).block, (ad.add (k * 11)).off + 3, none⟩ : Addr)).block < w.heap.size := by show (ad.add (k * 11)).block < _; rw [add_block]; omega
      have l4 : ((⟨(ad.add (k * 11)).block, (ad.add (k * 11)).off + 4, none⟩ : Addr)).block < w.heap.size := by show (ad.add (k * 11)).block < _; rw [add_block]; omega
      have l5 : ((⟨(ad.add (k * 11)).block, (ad.add (k * 11)).off + 5, none⟩ : Addr)).block < w.heap.size := by show (ad.add (k * 11)).block < _; rw [add_block]; omega
      have l6 : ((⟨(ad.add (k * 11)).block, (ad.add (k * 11)).off + 6, none⟩ : Addr)).block < w.heap.size := by show (ad.add (k * 11)).block < _; rw [add_block]; omega
      have l7 : ((⟨(ad.add (k * 11)).block, (ad.add (k * 11)).off + 7, none⟩ : Addr)).block < w.heap.size := by show (ad.add (k * 11)).block < _; rw [add_block]; omega
      have l8 : ((⟨(ad.add (k * 11)).block, (ad.add (k * 11)).off + 8, none⟩ : Addr)).block < w.heap.size := by show (ad.add (k * 11)).block < _; rw [add_block]; omega
      have l9 : ((⟨(ad.add (k * 11)).block, (ad.add (k * 11)).off + 9, none⟩ : Addr)).block < w.heap.size := by show (ad.add (k * 11)).block < _; rw [add_block]; omega
      have l10 : ((⟨(ad.add (k * 11)).block, (ad.add (k * 11)).off + 10, none⟩ : Addr)).block < w.heap.size := by show (ad.add (k * 11)).block < _; rw [add_block]; omega
      have HN1 := Lib.hid (fun W => refNumber_c pn W (by have := hpn.2.1; omega))
      have HN2 := Lib.hid (fun W => refPWr_any y hpn.2.2 HF.out.2 W)
      have wpl : IntKind.u64.wrap (pn : Int) = (pn : Int) := wrap_size (by have := hpn.2.1; omega)
      clear hpn
      have HE : Hid (numB n ++ (l.take k).flatMap lnB ++ numB pn ++ wB y = numB n ++ (l.take (k + 1)).flatMap lnB) := by
        show _ = _
        rw [← take_flatR (E := lnB) (L := numB n) HX.out]
        unfold lnB
        simp only [Int.toNat_natCast, List.append_assoc]
      go_upto_region 5 with fail
      replace hO := hO.drew_
      go_region_held3 (fun w' => w'.cell? (ad.add (k * 11)) = some (.int .i64 (pn : Int)) ∧ w'.cell? ⟨(ad.add (k * 11)).block, (ad.add (k * 11)).off + 1, none⟩ = some (.int .i64 y.dev) ∧ w'.cell? ⟨(ad.add (k * 11)).block, (ad.add (k * 11)).off + 2, none⟩ = some (.int .i64 y.seq) ∧ w'.cell? ⟨(ad.add (k * 11)).block, (ad.add (k * 11)).off + 3, none⟩ = some (.int .i64 y.K) ∧ w'.cell? ⟨(ad.add (k * 11)).block, (ad.add (k * 11)).off + 4, none⟩ = some (.string y.ky) ∧ w'.cell? ⟨(ad.add (k * 11)).block, (ad.add (k * 11)).off + 5, none⟩ = some (.int .i64 y.ka) ∧ w'.cell? ⟨(ad.add (k * 11)).block, (ad.add (k * 11)).off + 6, none⟩ = some (.int .i64 y.na) ∧ w'.cell? ⟨(ad.add (k * 11)).block, (ad.add (k * 11)).off + 7, none⟩ = some (.string y.sa) ∧ w'.cell? ⟨(ad.add (k * 11)).block, (ad.add (k * 11)).off + 8, none⟩ = some (.int .i64 y.kb) ∧ w'.cell? ⟨(ad.add (k * 11)).block, (ad.add (k * 11)).off + 9, none⟩ = some (.int .i64 y.nb) ∧ w'.cell? ⟨(ad.add (k * 11)).block, (ad.add (k * 11)).off + 10, none⟩ = some (.string y.sb) ∧ Below w.heap.size w w')
        (first | assumption | exact fd11_0 q0 q1 q2 q3 q4 q5 q6 q7 q8 q9 q10 hW | exact fd11_1 (by assumption) (by assumption) | exact fp11_2 (by assumption) l0 l1 l2 l3 l4 l5 l6 l7 l8 l9 l10 (by assumption))
        (first
          | (go_at_call 49; ((with_reducible refine (HN1.out _).mono ?_); rintro e w1 ⟨⟨A1, m1, c1, rfl, hO1, hm1⟩, hb1⟩; replace hO := hO.keep hb1))
          | (refine step_apB (o := ⟨some 22, _, _, _, _, _⟩) (base := w.heap.size) (n := n3) (m := m1) (l := numB n ++ (l.take k).flatMap lnB) (l2 := numB pn) (by rfl) _ _ (by rfl) Tryz.underlying29 Tryz.underlying29 hi0 hz0 hz1' hz2 (by rfl) (by rfl) hO hO1.rd hO1.len (n3 + m1) rfl (by omega) (fd11_b (by assumption)).size ?_; intro A3 c3 w3 hO3 hb3 hg3)
          | (go_at_call 61; ((with_reducible refine (HN2.out _).mono ?_); rintro e w6 ⟨⟨A6, m6, c6, rfl, hO6, hm6⟩, hb6⟩; replace hO3 := hO3.keep hb6))
          | (refine step_apB (o := ⟨some 29, _, _, _, _, _⟩) (base := w.heap.size) (n := n3 + m1) (m := m6) (l := numB n ++ (l.take k).flatMap lnB ++ numB pn) (l2 := wB y) (by rfl) _ _ (by rfl) Tryz.underlying29 Tryz.underlying29 hi0 hz0 hz1' hz2 (by rfl) (by rfl) hO3 hO6.rd hO6.len (n3 + m1 + m6) rfl (by omega) (fd11_b (by assumption)).size ?_; intro A7 c7 w7 hO7 hb7 hg7))
      have hW7 := fd11_b (by assumption : _ ∧ _ ∧ _ ∧ _ ∧ _ ∧ _ ∧ _ ∧ _ ∧ _ ∧ _ ∧ _ ∧ Below w.heap.size w w7)
      rw [HE.out] at hO7
      go_wp2_with fail
      go_roundw
      case rel => exact ⟨k + 1, A7, n3 + m1 + m6, c7, by omega, by go_num, rfl, by omega, hO7, hW7⟩
      case measure => simp [intOf]; omega
    · have hq : ¬ (k : Int) < (n : Int) := by omega
      have hE : numB n ++ (l.take k).flatMap lnB = numB n ++ l.flatMap lnB := by rw [List.take_of_length_le (by have := HN.out; omega)]
      rw [hE] at hO
      clear hE
      go_wp2_with fail
      go_ret
      exact ⟨⟨A3, n3, d3, rfl, hO⟩, hW⟩
end Go.Proofs.YtnlnbgcmmlpniaaGreatDoor
