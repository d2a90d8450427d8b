/-
  WHAT IS PROVED: the document's bytes of reaches, cells, lines (spinneyref07.Reach, Cells, Lines). Conditions: those typed in each theorem.
-/
import Derived.Test.YtnlnbgcmmlpniaaDoorRRefGood
import Derived.Test.YtnlnbgcmmlpniaaDoorM2
namespace Go.Proofs.YtnlnbgcmmlpniaaDoor
open Go.RowKit
attribute [local go_sem ↓] Go.wp_at_zero Go.wp_at_succ

section
variable {w0 W w' w1 : World} {p0 p1 p2 p3 : Addr} {v0 v1 v2 v3 : Value}
theorem fp4_2 (h : w'.cell? p0 = some v0 ∧ w'.cell? p1 = some v1 ∧ w'.cell? p2 = some v2 ∧ w'.cell? p3 = some v3 ∧ Below w0.heap.size w0 w') (l0 : p0.block < w0.heap.size) (l1 : p1.block < w0.heap.size) (l2 : p2.block < w0.heap.size) (l3 : p3.block < w0.heap.size) (hb : Below w0.heap.size w' w1) : w1.cell? p0 = some v0 ∧ w1.cell? p1 = some v1 ∧ w1.cell? p2 = some v2 ∧ w1.cell? p3 = some v3 ∧ Below w0.heap.size w0 w1 :=
  ⟨(hb.cell l0).trans h.1, (hb.cell l1).trans h.2.1, (hb.cell l2).trans h.2.2.1, (hb.cell l3).trans h.2.2.2.1, (h.2.2.2.2).trans hb⟩
end

section
variable {w0 W w' w1 : World} {p0 p1 p2 p3 p4 p5 p6 p7 p8 p9 p10 : Addr} {v0 v1 v2 v3 v4 v5 v6 v7 v8 v9 v10 : Value}
theorem fp11_2 (h : w'.cell? p0 = some v0 ∧ w'.cell? p1 = some v1 ∧ w'.cell? p2 = some v2 ∧ w'.cell? p3 = some v3 ∧ w'.cell? p4 = some v4 ∧ w'.cell? p5 = some v5 ∧ w'.cell? p6 = some v6 ∧ w'.cell? p7 = some v7 ∧ w'.cell? p8 = some v8 ∧ w'.cell? p9 = some v9 ∧ w'.cell? p10 = some v10 ∧ Below w0.heap.size w0 w') (l0 : p0.block < w0.heap.size) (l1 : p1.block < w0.heap.size) (l2 : p2.block < w0.heap.size) (l3 : p3.block < w0.heap.size) (l4 : p4.block < w0.heap.size) (l5 : p5.block < w0.heap.size) (l6 : p6.block < w0.heap.size) (l7 : p7.block < w0.heap.size) (l8 : p8.block < w0.heap.size) (l9 : p9.block < w0.heap.size) (l10 : p10.block < w0.heap.size) (hb : Below w0.heap.size w' w1) : w1.cell? p0 = some v0 ∧ w1.cell? p1 = some v1 ∧ w1.cell? p2 = some v2 ∧ w1.cell? p3 = some v3 ∧ w1.cell? p4 = some v4 ∧ w1.cell? p5 = some v5 ∧ w1.cell? p6 = some v6 ∧ w1.cell? p7 = some v7 ∧ w1.cell? p8 = some v8 ∧ w1.cell? p9 = some v9 ∧ w1.cell? p10 = some v10 ∧ Below w0.heap.size w0 w1 :=
  ⟨(hb.cell l0).trans h.1, (hb.cell l1).trans h.2.1, (hb.cell l2).trans h.2.2.1, (hb.cell l3).trans h.2.2.2.1, (hb.cell l4).trans h.2.2.2.2.1, (hb.cell l5).trans h.2.2.2.2.2.1, (hb.cell l6).trans h.2.2.2.2.2.2.1, (hb.cell l7).trans h.2.2.2.2.2.2.2.1, (hb.cell l8).trans h.2.2.2.2.2.2.2.2.1, (hb.cell l9).trans h.2.2.2.2.2.2.2.2.2.1, (hb.cell l10).trans h.2.2.2.2.2.2.2.2.2.2.1, (h.2.2.2.2.2.2.2.2.2.2.2).trans hb⟩
end

abbrev strCR (x : ByteArray) : Array Value := #[.string x]
theorem refNumber_c (n : Nat) (w : World) (hn : n ≤ 100000) :
    Calls Tryd.prog 26 #[.int .u64 n] w fun e w' => (∃ (A : Option Addr) (m c : Nat), e = .returned (.slice A m c) ∧ OwnB w.heap.size w' A m c (numB n) ∧ m ≤ 9) ∧ Below w.heap.size w w' :=
  (refNumber_any n w (by omega)).mono fun _ _ ⟨⟨A, m, c, he, hO⟩, hb⟩ => ⟨⟨A, m, c, he, hO, by have h1 := hO.len; have h2 := numB_small (n := n) (by omega); omega⟩, hb⟩
theorem take_flatR {α : Type} {E : α → List UInt8} {L : List UInt8} {l : List α} {k : Nat} {x : α} (h : l[k]? = some x) : L ++ (l.take k).flatMap E ++ E x = L ++ (l.take (k + 1)).flatMap E := by
  rw [List.take_add_one, h]
  simp

set_option maxRecDepth 100000 in
set_option maxHeartbeats 8000000 in
theorem refPutC_any {B : Nat} (A : Option Addr) (n c : Nat) (l : List Cl) (w : World) (hn : l.length = n) (hr : RdX 4 B w A (l.map Cl.cells)) (hB : B ≤ w.heap.size) (hm : n ≤ 1000) (hf : ∀ x, x ∈ l → x.good = true ∧ x.fits) :
    Calls Tryd.prog 9 #[.slice A n c] w fun e w' => PutP w (numB n ++ l.flatMap clB) e w' := by
  obtain ⟨i0, hi0, hz0, hz1', hz2⟩ := info_parts byt_info
  have HN := Lib.hid hn
  have HR := Lib.hid (fun W hb => hr.keep (W' := W) hb hB)
  have wn : IntKind.u64.wrap (n : Int) = (n : Int) := wrap_size (by omega)
  clear hn hr
  go_enter Tryd.func9, Tryd.ntmps9
  go_wp2_with fail
  refine (refNumber_b n _ hm).mono ?_
  rintro e w1 ⟨⟨A1, m1, c1, rfl, hO1, hm1⟩, hb1⟩
  clear wn
  go_wp2_with fail
  go_loopw [3, 11] (fun out i wr => ∃ (k : Nat) (A3 : Option Addr) (n3 c3 : Nat), k ≤ n ∧ i = .int .i64 k ∧ out = .slice A3 n3 c3 ∧ n3 ≤ 9 + 2100000 * k ∧ OwnB w.heap.size wr A3 n3 c3 (numB n ++ (l.take k).flatMap clB) ∧ Below w.heap.size w wr) (fun _ i _ => n - (intOf i).toNat)
  case atStart => exact ⟨0, A1, m1, c1, Nat.zero_le _, rfl, rfl, by omega, by simpa using hO1, hb1⟩
  case round =>
    clear hO1 hb1 hm1
    obtain ⟨k, A3, n3, d3, hk, rfl, rfl, hn3, hO, hW⟩ := hrel
    by_cases hlt : k < n
    · obtain ⟨x, hx⟩ : ∃ x, l[k]? = some x := ⟨_, List.getElem?_eq_getElem (show k < l.length by have := HN.out; omega)⟩
      obtain ⟨ad, rfl, had, hc⟩ := HR.out wr hW k _ (map_getR hx)
      have i1 : (0 : Int) ≤ (k : Int) := by omega
      have i2 : (k : Int) < (n : Int) := by omega
      have HX := Lib.hid hx
      have HF := Lib.hid (hf x (List.mem_of_getElem? hx))
      clear hx
      have q0 : wr.cell? (ad.add (k * 4)) = some (.string x.ky) := (celX hc).1 _ rfl
      have q1 : wr.cell? ⟨(ad.add (k * 4)).block, (ad.add (k * 4)).off + 1, none⟩ = some (.int .i64 x.k) := (celX hc).2 0 _ rfl
      have q2 : wr.cell? ⟨(ad.add (k * 4)).block, (ad.add (k * 4)).off + 2, none⟩ = some (.int .i64 x.x) := (celX hc).2 1 _ rfl
      have q3 : wr.cell? ⟨(ad.add (k * 4)).block, (ad.add (k * 4)).off + 3, none⟩ = some (.string x.s) := (celX hc).2 2 _ rfl
      clear hc
      have l0 : (ad.add (k * 4)).block < w.heap.size := by show (ad.add (k * 4)).block < _; rw [add_block]; omega
      have l1 : ((⟨(ad.add (k * 4)).block, (ad.add (k * 4)).off + 1, none⟩ : Addr)).block < w.heap.size := by show (ad.add (k * 4)).block < _; rw [add_block]; omega
      have l2 : ((⟨(ad.add (k * 4)).block, (ad.add (k * 4)).off + 2, none⟩ : Addr)).block < w.heap.size := by show (ad.add (k * 4)).block < _; rw [add_block]; omega
      have l3 : ((⟨(ad.add (k * 4)).block, (ad.add (k * 4)).off + 3, none⟩ : Addr)).block < w.heap.size := by show (ad.add (k * 4)).block < _; rw [add_block]; omega
      obtain ⟨g1, g2, g3, g4, g5⟩ := cl_in HF.out.1
      have HN1 := Lib.hid (fun W => refPText_b x.ky W (by omega))
      have HN2 := Lib.hid (fun W => refPValue_b x.k x.x x.s W (goodB_in g5).1 HF.out.2.2.2.1 HF.out.2.2.2.2 (by omega))
      clear g1 g2 g3 g4 g5
      have HE : Hid (numB n ++ (l.take k).flatMap clB ++ textB x.ky.data.toList ++ valB x.k x.x x.s.data.toList = numB n ++ (l.take (k + 1)).flatMap clB) := by
        show _ = _
        rw [← take_flatR (E := clB) (L := numB n) HX.out]
        unfold clB
        simp only [List.append_assoc]
      go_upto_region 5 with fail
      replace hO := hO.drew_
      go_region_held3 (fun w' => w'.cell? (ad.add (k * 4)) = some (.string x.ky) ∧ w'.cell? ⟨(ad.add (k * 4)).block, (ad.add (k * 4)).off + 1, none⟩ = some (.int .i64 x.k) ∧ w'.cell? ⟨(ad.add (k * 4)).block, (ad.add (k * 4)).off + 2, none⟩ = some (.int .i64 x.x) ∧ w'.cell? ⟨(ad.add (k * 4)).block, (ad.add (k * 4)).off + 3, none⟩ = some (.string x.s) ∧ Below w.heap.size w w')
        (first | assumption | exact fd4_0 q0 q1 q2 q3 hW | exact fd4_1 (by assumption) (by assumption) | exact fp4_2 (by assumption) l0 l1 l2 l3 (by assumption))
        (first
          | (go_at_call 27; ((with_reducible refine (HN1.out _).mono ?_); rintro e w1 ⟨⟨A1, m1, c1, rfl, hO1, hm1⟩, hb1⟩; replace hO := hO.keep hb1))
          | (refine step_apB (o := ⟨some 21, _, _, _, _, _⟩) (base := w.heap.size) (n := n3) (m := m1) (l := numB n ++ (l.take k).flatMap clB) (l2 := textB x.ky.data.toList) (by rfl) _ _ (by rfl) Tryd.underlying23 Tryd.underlying23 hi0 hz0 hz1' hz2 (by rfl) (by rfl) hO hO1.rd hO1.len (n3 + m1) rfl (by omega) (fd4_b (by assumption)).size ?_; intro A3 c3 w3 hO3 hb3 hg3)
          | (go_at_call 28; ((with_reducible refine (HN2.out _).mono ?_); rintro e w6 ⟨⟨A6, m6, c6, rfl, hO6, hm6⟩, hb6⟩; replace hO3 := hO3.keep hb6))
          | (refine step_apB (o := ⟨some 28, _, _, _, _, _⟩) (base := w.heap.size) (n := n3 + m1) (m := m6) (l := numB n ++ (l.take k).flatMap clB ++ textB x.ky.data.toList) (l2 := valB x.k x.x x.s.data.toList) (by rfl) _ _ (by rfl) Tryd.underlying23 Tryd.underlying23 hi0 hz0 hz1' hz2 (by rfl) (by rfl) hO3 hO6.rd hO6.len (n3 + m1 + m6) rfl (by omega) (fd4_b (by assumption)).size ?_; intro A7 c7 w7 hO7 hb7 hg7))
      have hW7 := fd4_b (by assumption : _ ∧ _ ∧ _ ∧ _ ∧ Below w.heap.size w w7)
      rw [HE.out] at hO7
      go_wp2_with fail
      go_roundw
      case rel => exact ⟨k + 1, A7, n3 + m1 + m6, c7, by omega, by go_num, rfl, by omega, hO7, hW7⟩
      case measure => simp [intOf]; omega
    · have hq : ¬ (k : Int) < (n : Int) := by omega
      have hE : numB n ++ (l.take k).flatMap clB = numB n ++ l.flatMap clB := by rw [List.take_of_length_le (by have := HN.out; omega)]
      rw [hE] at hO
      clear hE
      go_wp2_with fail
      go_ret
      exact ⟨⟨A3, n3, d3, rfl, hO⟩, hW⟩

end Go.Proofs.YtnlnbgcmmlpniaaDoor
