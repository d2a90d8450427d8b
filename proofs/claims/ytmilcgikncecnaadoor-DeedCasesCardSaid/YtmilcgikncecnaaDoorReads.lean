/-
  WHAT IS PROVED: the document's reading of any text of at most 1000 bytes is the plain function readV; what is read without an error is a good value.
-/
import Derived.Test.YtmilcgikncecnaaDoorRefRead3
import Derived.Test.YtmilcgikncecnaaDoorTexts
namespace Go.Proofs.YtmilcgikncecnaaDoor
open Go.RowKit

theorem readI_quote (l : List UInt8) (h : l.head? = some 34) : readI l = (0, 0, [], 2) := by
  match l with
  | [] => simp at h
  | c :: r =>
    simp only [List.head?_cons, Option.some.injEq] at h
    subst h
    refine readI_form (Or.inl ?_)
    rw [strip_other 34 r (by decide)]
    exact all_take_dig _ 0 34 rfl (by decide)

set_option maxHeartbeats 2000000 in
theorem refRead_nil (w : World) :
    Calls Tryd.prog 35 #[.string ⟨#[110, 105, 108]⟩] w fun e w' => e = .returned (rvOf (0, 0, [], 0)) ∧ Below w.heap.size w w' := by
  go_enter Tryd.func35, Tryd.ntmps35
  go_wp2_with fail
  exact bodyPost_ret (v := rvOf (0, 0, [], 0)) (by simp [results, Tryd.results35, go_sem, rvOf]) rfl ⟨rfl, b0 _ _⟩

set_option maxRecDepth 100000 in
set_option maxHeartbeats 4000000 in
theorem refRead_quoted (s : ByteArray) (w : World) (hs : s.size ≤ 1000) (n1 : (s.toList == [110, 105, 108]) = false) (h0 : 0 < s.size) (hq : 2 ≤ s.size) (h34 : s[0] = 34) (k0 : s.size - 1 < s.size) (h35 : s[s.size - 1] = 34) :
    Calls Tryd.prog 35 #[.string s] w fun e w' => e = .returned (rvOf (readQ (s.extract 1 (s.size - 1)).data.toList)) ∧ Below w.heap.size w w' := by
  have g1 : (2 : Int) ≤ (s.size : Int) := by omega
  have g2 : (0 : Int) ≤ (s.size : Int) - 1 := by omega
  have g3 : (s.size : Int) - 1 < (s.size : Int) := by omega
  have g4 : (1 : Int) ≤ (s.size : Int) - 1 := by omega
  have e34 : ((s[0].toNat : Int) == 34) = true := by rw [h34]; rfl
  have e35 : ((s[s.size - 1].toNat : Int) == 34) = true := by rw [h35]; rfl
  obtain ⟨⟨rk, rn, rt, re⟩, hr⟩ : ∃ r, readQ (s.extract 1 (s.size - 1)).data.toList = r := ⟨_, rfl⟩
  have c := fun W => refQ_any (s.extract 1 (s.size - 1)) W (by rw [ByteArray.size_extract]; omega)
  rw [hr] at c ⊢
  unfold rvOf at c ⊢
  simp only at c ⊢
  have C := Lib.hid c
  clear c hr h34 h35
  go_enter Tryd.func35, Tryd.ntmps35
  go_wp2_with (go_at_call 48; refine (C.out _).mono ?_; rintro e w2 ⟨rfl, hb2⟩; have hB2 := up_of hb2; obtain ⟨q0, q1, q2, f0, f1, f2⟩ := res_cells hB2)
  exact bodyPost_ret (v := rvOf (rk, rn, rt, re)) (by simp [results, Tryd.results35, go_sem, rvOf, q0, q1, q2]) rfl ⟨rfl, below3 (below_up hB2) _ _ _⟩

theorem refRead_any (s : ByteArray) (w : World) (hs : s.size ≤ 1000) :
    Calls Tryd.prog 35 #[.string s] w fun e w' => e = .returned (rvOf (readV s.data.toList)) ∧ Below w.heap.size w w' := by
  have hl : s.data.toList.length = s.size := Array.length_toList
  by_cases h1 : s.data.toList = [110, 105, 108]
  · rw [readV, if_pos h1]
    obtain rfl : s = ⟨#[110, 105, 108]⟩ := data_eq' h1
    exact refRead_nil w
  · have n1 := toList_ne h1
    by_cases z : s.size = 0
    · have hnil : s.data.toList = [] := List.length_eq_zero_iff.1 (by omega)
      obtain rfl : s = ⟨#[]⟩ := data_eq' hnil
      exact refInt_empty w
    · have h0 : 0 < s.size := by omega
      have hh : s.data.toList.head? = some s[0] := by rw [cons_of s h0]; rfl
      by_cases h34 : s[0] = 34
      · have h2 : s.data.toList.head? = some 34 := by rw [hh, h34]
        by_cases hq : 2 ≤ s.size
        · have k0 : s.size - 1 < s.size := by omega
          have hlast : s.data.toList.getLast? = some s[s.size - 1] := by rw [List.getLast?_eq_getElem?, hl, get_some s _ k0]
          by_cases h35 : s[s.size - 1] = 34
          · have R : readV s.data.toList = readQ (s.extract 1 (s.size - 1)).data.toList := by
              rw [readV, if_neg h1, if_pos h2, if_pos ⟨by omega, by rw [hlast, h35]⟩, Lib.extract_data, hl]
              rw [show s.size - 1 - 1 = s.size - 2 by omega]
            rw [R]
            exact refRead_quoted s w hs n1 h0 hq h34 k0 h35
          · have R : readV s.data.toList = readI s.data.toList := by
              rw [readV, if_neg h1, if_pos h2, if_neg, readI_quote _ h2]
              rintro ⟨_, h⟩
              rw [hlast, Option.some.injEq] at h
              exact h35 h
            rw [R]
            exact refInt_pos3 s w hs n1 h0 (by rw [h34]; decide) hq h34 k0 h35
        · have R : readV s.data.toList = readI s.data.toList := by
            rw [readV, if_neg h1, if_pos h2, if_neg, readI_quote _ h2]
            rintro ⟨h, _⟩
            omega
          rw [R]
          exact refInt_pos1 s w hs n1 h0 (by rw [h34]; decide) (by omega)
      · have R : readV s.data.toList = readI s.data.toList := by
          rw [readV, if_neg h1, if_neg]
          rw [hh]
          simpa using h34
        rw [R]
        by_cases h45 : s[0] = 45
        · by_cases hq : 2 ≤ s.size
          · exact refInt_neg s (s.extract 1 s.size) w hs n1 h0 hq h45 rfl
          · have h1' : s.data.toList = [45] := by
              have hc := cons_of s h0
              rw [h45] at hc
              have : (s.data.toList.drop 1).length = 0 := by
                rw [List.length_drop]
                omega
              rw [List.length_eq_zero_iff.1 this] at hc
              exact hc
            obtain rfl : s = ⟨#[45]⟩ := data_eq' h1'
            exact refInt_minus w
        · by_cases hq : 2 ≤ s.size
          · exact refInt_pos2 s w hs n1 h0 h45 hq h34
          · exact refInt_pos1 s w hs n1 h0 h45 (by omega)

theorem readI_good {l : List UInt8} {k n : Int} {t : List UInt8} (h : readI l = (k, n, t, 0)) : GoodW k n t ∧ -9223372036854775808 ≤ n ∧ n ≤ 9223372036854775807 := by
  unfold readI at h
  split at h
  · simp at h
  · split at h
    · split at h
      · simp only [Prod.mk.injEq] at h
        obtain ⟨rfl, rfl, rfl, _⟩ := h
        exact ⟨Or.inr (Or.inl ⟨rfl, rfl⟩), by omega, by omega⟩
      · simp at h
    · split at h
      · simp only [Prod.mk.injEq] at h
        obtain ⟨rfl, rfl, rfl, _⟩ := h
        exact ⟨Or.inr (Or.inl ⟨rfl, rfl⟩), by omega, by omega⟩
      · simp at h
theorem readV_good {l : List UInt8} {k n : Int} {t : List UInt8} (h : readV l = (k, n, t, 0)) : GoodW k n t ∧ -9223372036854775808 ≤ n ∧ n ≤ 9223372036854775807 := by
  unfold readV at h
  split at h
  · simp only [Prod.mk.injEq] at h
    obtain ⟨rfl, rfl, rfl, _⟩ := h
    exact ⟨Or.inl ⟨rfl, rfl, rfl⟩, by omega, by omega⟩
  · split at h
    · split at h
      · unfold readQ at h
        split at h
        · simp at h
        · split at h
          · simp at h
          · simp only [Prod.mk.injEq] at h
            obtain ⟨rfl, rfl, rfl, _⟩ := h
            exact ⟨Or.inr (Or.inr ⟨rfl, rfl, by omega⟩), by omega, by omega⟩
      · simp at h
    · exact readI_good h
end Go.Proofs.YtmilcgikncecnaaDoor
