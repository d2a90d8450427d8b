/-
  WHAT IS PROVED: what is read of a line has that line; the walk of the law DeedReads: it returns true for every text, where the library's variables hold what the program's text lays.
-/
import Derived.Test.YtmilcgikncecnaaDoorAwake2
import Derived.Test.YtmilcgikncecnaaDoorRefReadD2
import Derived.Test.YtmilcgikncecnaaDoorLine
import Derived.Test.YtmilcgikncecnaaDoorLawGood2
namespace Go.Proofs.YtmilcgikncecnaaDoor
open Go.RowKit

theorem text_back {l : List UInt8} (h : (readV l).2.2.2 = 0) : textV (readV l).1 (readV l).2.1 (readV l).2.2.1 = l := by
  obtain ⟨⟨k, n, t, e⟩, hr⟩ : ∃ r, readV l = r := ⟨_, rfl⟩
  rw [hr] at h ⊢
  simp only at h
  subst h
  exact text_read l k n t hr
theorem word_back {l : List UInt8} (h : begunK l = 1 ∨ begunK l = 2 ∨ begunK l = 3 ∨ begunK l = 4) : wordL (begunK l) = l := by
  rcases begunK_cases l with ⟨e, k⟩ | ⟨e, k⟩ | ⟨e, k⟩ | ⟨e, k⟩ | e
  · rw [e, ← k]
  · rw [e, ← k]
  · rw [e, ← k]
  · rw [e, ← k]
  · omega
theorem readD_parts {l : List UInt8} {p : PV} (h : readD l = some p) : parseP l = some p ∧ goodP p = true := by
  unfold readD at h
  cases hp : parseP l with
  | none => rw [hp] at h; simp at h
  | some q =>
    rw [hp] at h
    simp only at h
    by_cases g : goodP q = true
    · rw [if_pos g] at h
      simp only [Option.some.injEq] at h
      subst h
      exact ⟨rfl, g⟩
    · rw [if_neg g] at h
      simp at h
theorem line_of_read {l : List UInt8} {p : PV} (h : readD l = some p) : lineL p.1 p.2.1 (textV p.2.2.1.1 p.2.2.1.2.1 p.2.2.1.2.2.1) (textV p.2.2.2.1 p.2.2.2.2.1 p.2.2.2.2.2.1) = l := by
  obtain ⟨h1, g⟩ := readD_parts h
  have hk := opB_kind g
  have hj := join_pieces 4 l
  unfold parseP at h1
  generalize pieces 4 l = ps at hj h1
  match ps, hj, h1 with
  | [], _, h1 => simp at h1
  | [_], _, h1 => simp at h1
  | [p0, p1], hj, h1 =>
    simp only at h1
    split at h1
    · rename_i ht
      simp only [Option.some.injEq] at h1
      subst h1
      have hw := word_back hk
      have h3 := toldN_0 ht
      have k2 : begunK p0 = 2 := by
        have : begunK p0 = 1 ∨ begunK p0 = 2 ∨ begunK p0 = 3 ∨ begunK p0 = 4 := hk
        omega
      simp only
      rw [← hj]
      unfold lineL argsL
      rw [if_neg (by omega), if_neg (by omega), hw]
    · simp at h1
  | [p0, p1, p2], hj, h1 =>
    simp only at h1
    split at h1
    · rename_i ht
      simp only [Option.some.injEq] at h1
      subst h1
      have hw := word_back hk
      simp only
      rw [text_back ht.2, ← hj]
      unfold lineL argsL
      rw [if_pos (toldN_1 ht.1), hw]
    · simp at h1
  | [p0, p1, p2, p3], hj, h1 =>
    simp only at h1
    split at h1
    · rename_i ht
      simp only [Option.some.injEq] at h1
      subst h1
      have hw := word_back hk
      have k4 := toldN_2 ht.1
      simp only
      rw [text_back ht.2.1, text_back ht.2.2, ← hj]
      unfold lineL argsL
      rw [if_neg (by omega), if_pos k4, hw]
    · simp at h1
  | _ :: _ :: _ :: _ :: _ :: _, _, h1 => simp at h1

set_option maxHeartbeats 2000000 in
theorem lawReadsD_long (s : ByteArray) (w : World) (hs : s.size ≤ maxLen) (h : 1000 < s.size) (hL : LaidD w) :
    Calls Tryd.prog 7 #[.string s] w fun e w' => e = .returned (.bool true) ∧ Below w.heap.size w w' := by
  unfold maxLen at hs
  have i1 : (1000 : Int) < (s.size : Int) := by omega
  have HL := Lib.hid hL
  clear hL
  go_enter Tryd.func7, Tryd.ntmps7
  go_wp2_with fail
  refine (awake_any _ HL.out).mono ?_
  rintro e w1 ⟨rfl, hb1⟩
  go_wp2_with fail
  refine (awake_any _ (HL.out.keep hb1)).mono ?_
  rintro e w2 ⟨rfl, hb2⟩
  go_wp2_with fail
  go_ret
  exact ⟨rfl, bt hb1 hb2⟩

set_option maxRecDepth 100000 in
set_option maxHeartbeats 4000000 in
theorem lawReadsD_none (s : ByteArray) (w : World) (hs : s.size ≤ 1000) (hr : readD s.data.toList = none) (hL : LaidD w) :
    Calls Tryd.prog 7 #[.string s] w fun e w' => e = .returned (.bool true) ∧ Below w.heap.size w w' := by
  have i1 : ¬ (1000 : Int) < (s.size : Int) := by omega
  have c1 := fun (W : World) (h : LaidD W) => deedRead_any s W hs h
  have c2 := fun (W : World) => refDeed_any s W hs
  rw [hr] at c1 c2
  have C1 : Hid (∀ W : World, LaidD W → Calls Tryd.prog 18 #[.string s] W fun e W' => e = .returned (opE 0 ⟨#[]⟩ 0 0 ⟨#[]⟩ 0 0 ⟨#[]⟩ 2) ∧ Below W.heap.size W W') := c1
  have C2 : Hid (∀ W : World, Calls Tryd.prog 20 #[.string s] W fun e W' => e = .returned (noT false) ∧ Below W.heap.size W W') := c2
  have HL := Lib.hid hL
  clear c1 c2 hr hL
  go_enter Tryd.func7, Tryd.ntmps7
  go_wp2_with fail
  refine (awake_any _ HL.out).mono ?_
  rintro e w1 ⟨rfl, hb1⟩
  go_wp2_with fail
  refine (C1.out _ (HL.out.keep hb1)).mono ?_
  rintro e w2 ⟨rfl, hb2⟩
  have hB := bt hb1 hb2
  clear hb1 hb2
  go_wp2_with fail
  have HO := Lib.hid (blk_new w2 (opC 0 ⟨#[]⟩ 0 0 ⟨#[]⟩ 0 0 ⟨#[]⟩) 28)
  replace hB := ba hB (.cells (opC 0 ⟨#[]⟩ 0 0 ⟨#[]⟩ 0 0 ⟨#[]⟩) 28)
  refine (C2.out _).mono ?_
  rintro e w3 ⟨rfl, hb3⟩
  replace hB := bt hB hb3
  replace HO := Lib.hid ((HO.out.keep hb3).alloc (.cells (opC 0 ⟨#[]⟩ 0 0 ⟨#[]⟩ 0 0 ⟨#[]⟩) 28))
  obtain ⟨q0, q1, q2, q3, q4, q5, q6, q7, q8⟩ := ((HO.out).c8)
  have hz := hb3.size
  clear hb3
  go_wp2_with fail
  go_ret
  exact ⟨rfl, ba hB _⟩

set_option maxRecDepth 100000 in
set_option maxHeartbeats 4000000 in
theorem lawReadsD_some (s : ByteArray) (w : World) (hs : s.size ≤ 1000) (K ka na kb nb : Int) (ky sa sb : ByteArray) (hL : LaidD w)
    (C1 : Hid (∀ W : World, LaidD W → Calls Tryd.prog 18 #[.string s] W fun e W' => e = .returned (opE K ky ka na sa kb nb sb 0) ∧ Below W.heap.size W W'))
    (C2 : Hid (∀ W : World, Calls Tryd.prog 20 #[.string s] W fun e W' => e = .returned (opT K ky ka na sa kb nb sb true) ∧ Below W.heap.size W W'))
    (C3 : Hid (∀ W : World, LaidD W → Calls Tryd.prog 17 #[opV K ky ka na sa kb nb sb] W fun e W' => e = .returned (.string s) ∧ Below W.heap.size W W')) :
    Calls Tryd.prog 7 #[.string s] w fun e w' => e = .returned (.bool true) ∧ Below w.heap.size w w' := by
  have i1 : ¬ (1000 : Int) < (s.size : Int) := by omega
  have HL := Lib.hid hL
  clear hL
  go_enter Tryd.func7, Tryd.ntmps7
  go_wp2_with fail
  refine (awake_any _ HL.out).mono ?_
  rintro e w1 ⟨rfl, hb1⟩
  go_wp2_with fail
  refine (C1.out _ (HL.out.keep hb1)).mono ?_
  rintro e w2 ⟨rfl, hb2⟩
  have hB := bt hb1 hb2
  clear hb1 hb2
  go_wp2_with fail
  have HO := Lib.hid (blk_new w2 (opC K ky ka na sa kb nb sb) 28)
  replace hB := ba hB (.cells (opC K ky ka na sa kb nb sb) 28)
  refine (C2.out _).mono ?_
  rintro e w3 ⟨rfl, hb3⟩
  replace hB := bt hB hb3
  replace HO := Lib.hid ((HO.out.keep hb3).alloc (.cells (opC K ky ka na sa kb nb sb) 28))
  replace hB := ba hB (.cells (opC K ky ka na sa kb nb sb) 28)
  obtain ⟨q0, q1, q2, q3, q4, q5, q6, q7, q8⟩ := ((HO.out).c8)
  have hz := hb3.size
  clear hb3
  go_wp2_with fail
  refine (C3.out _ (HL.out.keep hB)).mono ?_
  rintro e w4 ⟨rfl, hb4⟩
  go_wp2_with fail
  go_ret
  exact ⟨rfl, bt hB hb4⟩

theorem lawReadsD_any (s : ByteArray) (w : World) (hs : s.size ≤ maxLen) (hL : LaidD w) :
    Calls Tryd.prog 7 #[.string s] w fun e w' => e = .returned (.bool true) ∧ Below w.heap.size w w' := by
  by_cases h : 1000 < s.size
  · exact lawReadsD_long s w hs h hL
  · have h' : s.size ≤ 1000 := by omega
    cases hr : readD s.data.toList with
    | none => exact lawReadsD_none s w h' hr hL
    | some p =>
      have c1 := fun (W : World) (h : LaidD W) => deedRead_any s W h' h
      have c2 := fun (W : World) => refDeed_any s W h'
      rw [hr] at c1 c2
      obtain ⟨hp, hg⟩ := readD_parts hr
      have hw := opB_words hg
      have ok := pv_ok hp
      have ga : GoodW p.2.2.1.1 p.2.2.1.2.1 (⟨p.2.2.1.2.2.1.toArray⟩ : ByteArray).data.toList := by rw [data_of]; exact ok.2.1.1
      have gb : GoodW p.2.2.2.1 p.2.2.2.2.1 (⟨p.2.2.2.2.2.1.toArray⟩ : ByteArray).data.toList := by rw [data_of]; exact ok.2.2.1
      have sk : (⟨p.2.1.toArray⟩ : ByteArray).size ≤ 20 := by
        have := (keyB_all hw.1).2.2
        rw [data_of] at this
        rw [size_of]
        exact this
      have c3 := fun (W : World) (h : LaidD W) => line_any p.1 p.2.2.1.1 p.2.2.1.2.1 p.2.2.2.1 p.2.2.2.2.1 ⟨p.2.1.toArray⟩ ⟨p.2.2.1.2.2.1.toArray⟩ ⟨p.2.2.2.2.2.1.toArray⟩ W sk ga gb ok.2.1.2 ok.2.2.2 (opB_kind hg) h.1
      simp only [line_of_read hr] at c3
      exact lawReadsD_some s w h' _ _ _ _ _ _ _ _ hL c1 c2 c3
end Go.Proofs.YtmilcgikncecnaaDoor
