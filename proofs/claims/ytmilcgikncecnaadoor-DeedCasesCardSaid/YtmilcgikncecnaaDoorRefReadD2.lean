/-
  WHAT IS PROVED: the document's reading of a line of at most 1000 bytes is the plain function readD, as deed.Read's is.
-/
import Derived.Test.YtmilcgikncecnaaDoorRefReadD
namespace Go.Proofs.YtmilcgikncecnaaDoor
open Go.RowKit

theorem readV_nonneg (l : List UInt8) : 0 ≤ (readV l).2.2.2 := by
  unfold readV readQ readI
  repeat' split
  all_goals first
    | exact (by decide : (0 : Int) ≤ 0)
    | exact (by decide : (0 : Int) ≤ 1)
    | exact (by decide : (0 : Int) ≤ 2)
theorem good_call {K ka na kb nb : Int} {ky sa sb : ByteArray} {b : Bool} (hk : ky.size ≤ 1000) (ha : sa.size ≤ 1000) (hb : sb.size ≤ 1000) (h : opB K ky ka na sa kb nb sb = b) :
    Hid (∀ W : World, Calls Tryd.prog 13 #[opV K ky ka na sa kb nb sb] W fun e W' => e = .returned (.bool b) ∧ Below W.heap.size W W') := by
  intro W
  have := refOpGood_any K ka na kb nb ky sa sb W (by unfold maxLen; omega) (by unfold maxLen; omega) (by unfold maxLen; omega)
  rwa [h] at this
theorem refRead_call (l : List UInt8) (hl : l.length ≤ 1000) : Hid (∀ W : World, Calls Tryd.prog 35 #[.string ⟨l.toArray⟩] W fun e W' => e = .returned (.tuple #[.agg #[.int .i64 (readV l).1, .int .i64 (readV l).2.1, .string ⟨(readV l).2.2.1.toArray⟩], .int .i64 (readV l).2.2.2]) ∧ Below W.heap.size W W') := by
  intro W
  have := refRead_any ⟨l.toArray⟩ W (by rw [size_of]; exact hl)
  have e : (⟨l.toArray⟩ : ByteArray).data.toList = l := by simp
  rw [e] at this
  exact this
theorem data_of (l : List UInt8) : (⟨l.toArray⟩ : ByteArray).data.toList = l := by simp
theorem readD_none {l : List UInt8} (h : parseP l = none) : readD l = none := by unfold readD; rw [h]
theorem readD_good {l : List UInt8} {p : PV} (h : parseP l = some p) (g : goodP p = true) : readD l = some p := by unfold readD; rw [h]; exact if_pos g
theorem readD_bad {l : List UInt8} {p : PV} (h : parseP l = some p) (g : goodP p = false) : readD l = none := by unfold readD; rw [h]; exact if_neg (by rw [g]; decide)
theorem begunK_told (l : List UInt8) : toldN (begunK l) = 0 → begunK l = 2 ∨ begunK l = 0 := by
  intro h
  have h1 := toldN_0 h
  rcases begunK_cases l with ⟨e, _⟩ | ⟨e, _⟩ | ⟨e, _⟩ | ⟨e, _⟩ | e
  · exact absurd e h1.1
  · exact Or.inl e
  · exact absurd e h1.2.1
  · exact absurd e h1.2.2
  · exact Or.inr e
theorem beqf {a b : Int} (h : a ≠ b) : (a == b) = false := beq_eq_false_iff_ne.2 h
theorem beqt {a b : Int} (h : a = b) : (a == b) = true := beq_iff_eq.2 h

set_option maxHeartbeats 1000000 in
theorem refDeed_any (s : ByteArray) (w : World) (hs : s.size ≤ 1000) :
    Calls Tryd.prog 20 #[.string s] w fun e w' => e = .returned (pT (readD s.data.toList)) ∧ Below w.heap.size w w' := by
  have hl : s.data.toList.length = s.size := Array.length_toList
  cases h1 : cutL s.data.toList with
  | none =>
    rw [readD_none (parseP_0 h1)]
    exact refReadD_0 s s ⟨#[]⟩ w (cut_call (by unfold maxLen; omega) h1)
  | some p1 =>
    obtain ⟨a1, b1⟩ := p1
    have l1 : s.data.toList.length = a1.length + (b1.length + 1) := by rw [(cutL_some h1).1]; simp
    have C1 := cut_call (s := s) (o := some (a1, b1)) (by unfold maxLen; omega) h1
    have K1 : Hid (begunK (⟨a1.toArray⟩ : ByteArray).data.toList = begunK a1) := by show _ = _; rw [data_of]
    cases h2 : cutL b1 with
    | none =>
      have C2 := cut_call (s := ⟨b1.toArray⟩) (o := none) (by rw [size_of]; unfold maxLen; omega) (by rw [data_of]; exact h2)
      have hp := pieces_2 h1 h2
      by_cases k2 : begunK a1 = 2
      · have hq : parseP s.data.toList = some (2, b1, nilV, nilV) := by
          unfold parseP
          rw [hp]
          simp only
          rw [k2]
          exact if_pos (by decide)
        have K2 : Hid (begunK (⟨a1.toArray⟩ : ByteArray).data.toList = 2) := by
          show _ = _
          rw [data_of, k2]
        have sz : (⟨b1.toArray⟩ : ByteArray).size ≤ 1000 := by rw [size_of]; omega
        cases g : goodP (2, b1, nilV, nilV) with
        | true =>
          rw [readD_good hq g]
          exact refReadD_1g 2 s ⟨a1.toArray⟩ ⟨b1.toArray⟩ _ _ w C1 K2 C2 (good_call sz (by decide) (by decide) g) (beqt rfl)
        | false =>
          rw [readD_bad hq g]
          exact refReadD_1n 2 s ⟨a1.toArray⟩ ⟨b1.toArray⟩ _ _ w C1 K2 C2 (good_call sz (by decide) (by decide) g) (beqt rfl)
      · have hq : readD s.data.toList = none := by
          by_cases ht : toldN (begunK a1) = 0
          · have hq2 : parseP s.data.toList = some (begunK a1, b1, nilV, nilV) := by unfold parseP; rw [hp]; exact if_pos ht
            refine readD_bad hq2 ?_
            cases g : goodP (begunK a1, b1, nilV, nilV) with
            | false => rfl
            | true =>
              exfalso
              have := opB_kind g
              have h3 := toldN_0 ht
              omega
          · exact readD_none (by unfold parseP; rw [hp]; exact if_neg ht)
        rw [hq]
        exact refReadD_1k (begunK a1) s ⟨a1.toArray⟩ ⟨b1.toArray⟩ _ _ w C1 K1 C2 (beqf k2)
    | some p2 =>
      obtain ⟨k1, c1⟩ := p2
      have l2 : b1.length = k1.length + (c1.length + 1) := by rw [(cutL_some h2).1]; simp
      have sz : (⟨k1.toArray⟩ : ByteArray).size ≤ 1000 := by rw [size_of]; omega
      have C2 := cut_call (s := ⟨b1.toArray⟩) (o := some (k1, c1)) (by rw [size_of]; unfold maxLen; omega) (by rw [data_of]; exact h2)
      cases h3 : cutL c1 with
      | none =>
        have C3 := cut_call (s := ⟨c1.toArray⟩) (o := none) (by rw [size_of]; unfold maxLen; omega) (by rw [data_of]; exact h3)
        have RA := refRead_call c1 (by omega)
        have hp := pieces_3 h1 h2 h3
        by_cases k4 : begunK a1 = 4
        · have hq : readD s.data.toList = none := readD_none (by
            unfold parseP
            rw [hp]
            simp only
            rw [k4]
            exact if_neg (fun x => absurd x.1 (by decide)))
          rw [hq]
          exact refReadD_2c (begunK a1) s ⟨a1.toArray⟩ ⟨b1.toArray⟩ _ _ _ _ _ _ _ _ w C1 K1 C2 C3 RA (beqt k4)
        · by_cases k2 : begunK a1 = 2
          · have hq : readD s.data.toList = none := readD_none (by
              unfold parseP
              rw [hp]
              simp only
              rw [k2]
              exact if_neg (fun x => absurd x.1 (by decide)))
            rw [hq]
            exact refReadD_2d (begunK a1) s ⟨a1.toArray⟩ ⟨b1.toArray⟩ _ _ _ _ _ _ _ _ w C1 K1 C2 C3 RA (beqf k4) (beqt k2)
          · by_cases he : (readV c1).2.2.2 = 0
            · have heb : ((readV c1).2.2.2 != 0) = false := by rw [he]; rfl
              have rok := readV_ok he
              have z : (⟨(readV c1).2.2.1.toArray⟩ : ByteArray).size ≤ 1000 := by rw [size_of]; have := goodW_len rok.1; omega
              cases g : goodP (begunK a1, k1, readV c1, nilV) with
              | true =>
                have ht : toldN (begunK a1) = 1 := by
                  rcases opB_kind g with e | e | e | e
                  · have e' : begunK a1 = 1 := e
                    rw [e']; decide
                  · exact absurd e k2
                  · have e' : begunK a1 = 3 := e
                    rw [e']; decide
                  · exact absurd e k4
                have hq : parseP s.data.toList = some (begunK a1, k1, readV c1, nilV) := by unfold parseP; rw [hp]; exact if_pos ⟨ht, he⟩
                rw [readD_good hq g]
                exact refReadD_2g (begunK a1) s ⟨a1.toArray⟩ ⟨b1.toArray⟩ _ _ _ _ _ _ _ _ w C1 K1 C2 C3 RA (good_call sz z (by decide) g) (beqf k4) (beqf k2) heb
              | false =>
                have hq : readD s.data.toList = none := by
                  by_cases ht : toldN (begunK a1) = 1
                  · exact readD_bad (p := (begunK a1, k1, readV c1, nilV)) (by unfold parseP; rw [hp]; exact if_pos ⟨ht, he⟩) g
                  · exact readD_none (by unfold parseP; rw [hp]; exact if_neg (fun x => ht x.1))
                rw [hq]
                exact refReadD_2n (begunK a1) s ⟨a1.toArray⟩ ⟨b1.toArray⟩ _ _ _ _ _ _ _ _ w C1 K1 C2 C3 RA (good_call sz z (by decide) g) (beqf k4) (beqf k2) heb
            · have heb : ((readV c1).2.2.2 != 0) = true := by simpa using he
              have hq : readD s.data.toList = none := readD_none (by unfold parseP; rw [hp]; exact if_neg (fun x => he x.2))
              rw [hq]
              exact refReadD_2e (begunK a1) s ⟨a1.toArray⟩ ⟨b1.toArray⟩ _ _ _ _ _ _ _ _ w C1 K1 C2 C3 RA (beqf k4) (beqf k2) heb
      | some p3 =>
        obtain ⟨a2, b2⟩ := p3
        have l3 : c1.length = a2.length + (b2.length + 1) := by rw [(cutL_some h3).1]; simp
        have C3 := cut_call (s := ⟨c1.toArray⟩) (o := some (a2, b2)) (by rw [size_of]; unfold maxLen; omega) (by rw [data_of]; exact h3)
        have RA := refRead_call a2 (by omega)
        have RB := refRead_call b2 (by omega)
        by_cases k4 : begunK a1 = 4
        · have k2 : begunK a1 ≠ 2 := by omega
          by_cases he : (readV a2).2.2.2 = 0 ∧ (readV b2).2.2.2 = 0
          · obtain ⟨he, hf⟩ := he
            have h4 : cutL b2 = none := by
              refine cutL_of_none _ (fun hm => ?_)
              exact blank_read hm hf
            have hp := pieces_4 h1 h2 h3 h4
            have ht : toldN (begunK a1) = 2 := by rw [k4]; decide
            have hq : parseP s.data.toList = some (begunK a1, k1, readV a2, readV b2) := by unfold parseP; rw [hp]; exact if_pos ⟨ht, he, hf⟩
            have z : (⟨(readV a2).2.2.1.toArray⟩ : ByteArray).size ≤ 1000 := by rw [size_of]; have := goodW_len (readV_ok he).1; omega
            have z2 : (⟨(readV b2).2.2.1.toArray⟩ : ByteArray).size ≤ 1000 := by rw [size_of]; have := goodW_len (readV_ok hf).1; omega
            cases g : goodP (begunK a1, k1, readV a2, readV b2) with
            | true =>
              rw [readD_good hq g]
              exact refReadD_3g (begunK a1) s ⟨a1.toArray⟩ ⟨b1.toArray⟩ _ _ _ _ _ _ _ _ _ _ _ _ w C1 K1 C2 C3 RA RB (good_call sz z z2 g) (beqt k4) (beqf k2) he hf
            | false =>
              rw [readD_bad hq g]
              exact refReadD_3n (begunK a1) s ⟨a1.toArray⟩ ⟨b1.toArray⟩ _ _ _ _ _ _ _ _ _ _ _ _ w C1 K1 C2 C3 RA RB (good_call sz z z2 g) (beqt k4) (beqf k2) he hf
          · have n1 := readV_nonneg a2
            have n2 := readV_nonneg b2
            have hq : readD s.data.toList = none := readD_none (by
              cases h4 : cutL b2 with
              | none =>
                unfold parseP
                rw [pieces_4 h1 h2 h3 h4]
                exact if_neg (fun x => he x.2)
              | some p4 =>
                obtain ⟨c, d⟩ := p4
                unfold parseP
                rw [pieces_5 h1 h2 h3 h4])
            rw [hq]
            exact refReadD_3e (begunK a1) s ⟨a1.toArray⟩ ⟨b1.toArray⟩ _ _ _ _ _ _ _ _ _ _ _ _ w C1 K1 C2 C3 RA RB (beqt k4) (beqf k2) n1 n2 (by omega)
        · have hq : readD s.data.toList = none := readD_none (by
            cases h4 : cutL b2 with
            | none =>
              unfold parseP
              rw [pieces_4 h1 h2 h3 h4]
              exact if_neg (fun x => k4 (toldN_2 x.1))
            | some p4 =>
              obtain ⟨c, d⟩ := p4
              unfold parseP
              rw [pieces_5 h1 h2 h3 h4])
          rw [hq]
          exact refReadD_3k (begunK a1) s ⟨a1.toArray⟩ ⟨b1.toArray⟩ _ _ _ _ _ _ _ _ w C1 K1 C2 C3 RA (beqf k4)
end Go.Proofs.YtmilcgikncecnaaDoor
