/-
  WHAT IS PROVED: cell.Text of any good value, and the document's, is the plain function textV's text; cell.Read reads it back, where the library's variables hold what the program's text lays.
-/
import Derived.Test.YtmilcgikncecnaaDoorReadInt
import Derived.Test.YtmilcgikncecnaaDoorRefText
import Derived.Test.YtmilcgikncecnaaDoorTextT
namespace Go.Proofs.YtmilcgikncecnaaDoor
open Go.RowKit

theorem itoa_any (n : Int) (w : World) (h0 : -9223372036854775808 ≤ n) (h1 : n ≤ 9223372036854775807) (hL : LaidV w) :
    Calls Tryd.prog 38 #[.int .i64 n] w fun e w' => e = .returned (.string ⟨(Lib.itoa n).toArray⟩) ∧ Below w.heap.size w w' := by
  refine (Tryd.strconv_Itoa n h0 h1 w hL.1).mono ?_
  rintro e w' ⟨rfl, k, os, rfl⟩
  refine ⟨rfl, ⟨rfl, rfl, rfl, ?_, fun i hi => ?_⟩⟩
  · show w.heap.size ≤ (w.heap ++ os).size
    rw [Array.size_append]
    omega
  · show (w.heap ++ os)[i]? = w.heap[i]?
    rw [Array.getElem?_append_left hi]

set_option maxHeartbeats 1000000 in
theorem text_nil (n : Int) (s : ByteArray) (w : World) :
    Calls Tryd.prog 30 #[.agg #[.int .i64 0, .int .i64 n, .string s]] w fun e w' => e = .returned (.string ⟨(textV 0 n s.data.toList).toArray⟩) ∧ Below w.heap.size w w' := by
  rw [textV_0]
  go_enter Tryd.func30, Tryd.ntmps30
  go_wp2_with fail
  go_ret
  exact ⟨ret_str' rfl, b0 _ _⟩
set_option maxHeartbeats 1000000 in
theorem text_int (n : Int) (s : ByteArray) (w : World) (h0 : -9223372036854775808 ≤ n) (h1 : n ≤ 9223372036854775807) (hL : LaidV w) :
    Calls Tryd.prog 30 #[.agg #[.int .i64 1, .int .i64 n, .string s]] w fun e w' => e = .returned (.string ⟨(textV 1 n s.data.toList).toArray⟩) ∧ Below w.heap.size w w' := by
  rw [textV_1]
  have hL2 := hL.keep (b0 w (.cells #[.int .i64 1, .int .i64 n, .string s] 26))
  go_enter Tryd.func30, Tryd.ntmps30
  go_wp2_with (go_at_call 38; refine (itoa_any _ _ h0 h1 hL2).mono ?_; rintro e w2 ⟨rfl, hb2⟩)
  go_ret
  exact ⟨ret_str' rfl, bt (b0 _ _) hb2⟩

/-- Good, in plain words, the length too. -/
def GoodW (k n : Int) (t : List UInt8) : Prop := (k = 0 ∧ n = 0 ∧ t = []) ∨ (k = 1 ∧ t = []) ∨ (k = 2 ∧ n = 0 ∧ t.length ≤ 40)
theorem good_words {k n : Int} {s : ByteArray} (h : goodB k n s = true) : GoodW k n s.data.toList := by
  have hl : s.data.toList.length = s.size := Array.length_toList
  have he : s.size = 0 → s.data.toList = [] := fun h0 => List.length_eq_zero_iff.1 (by omega)
  simp only [goodB, decide_eq_true_eq] at h
  rcases h with ⟨h1, h2, h3⟩ | ⟨h1, h3⟩ | ⟨h1, h2, h3⟩
  · exact Or.inl ⟨h1, h2, he h3⟩
  · exact Or.inr (Or.inl ⟨h1, he h3⟩)
  · exact Or.inr (Or.inr ⟨h1, h2, by omega⟩)
theorem textV_len {k n : Int} {t : List UInt8} (h : GoodW k n t) (h0 : -9223372036854775808 ≤ n) (h1 : n ≤ 9223372036854775807) : (textV k n t).length ≤ 200 := by
  rcases h with ⟨rfl, _, _⟩ | ⟨rfl, _⟩ | ⟨rfl, _, ht⟩
  · rw [textV_0]
    decide
  · rw [textV_1]
    unfold Lib.itoa
    split
    · have := dec_len n.natAbs (by omega)
      simp only [List.length_cons]
      omega
    · have := dec_len n.toNat (by omega)
      omega
  · rw [textV_2]
    have := quoL_len t
    simp
    omega
theorem text_any (k n : Int) (s : ByteArray) (w : World) (g : GoodW k n s.data.toList) (h0 : -9223372036854775808 ≤ n) (h1 : n ≤ 9223372036854775807) (hL : LaidV w) :
    Calls Tryd.prog 30 #[.agg #[.int .i64 k, .int .i64 n, .string s]] w fun e w' => e = .returned (.string ⟨(textV k n s.data.toList).toArray⟩) ∧ Below w.heap.size w w' := by
  rcases g with ⟨rfl, _, _⟩ | ⟨rfl, _⟩ | ⟨rfl, _, ht⟩
  · exact text_nil n s w
  · exact text_int n s w h0 h1 hL
  · have hl : s.data.toList.length = s.size := Array.length_toList
    rw [textV_2]
    exact text_text n s w (by omega)
theorem refText_any (k n : Int) (s : ByteArray) (w : World) (g : GoodW k n s.data.toList) (h0 : -9223372036854775808 ≤ n) (h1 : n ≤ 9223372036854775807) :
    Calls Tryd.prog 33 #[.agg #[.int .i64 k, .int .i64 n, .string s]] w fun e w' => e = .returned (.string ⟨(textV k n s.data.toList).toArray⟩) ∧ Below w.heap.size w w' := by
  rcases g with ⟨rfl, _, _⟩ | ⟨rfl, _⟩ | ⟨rfl, _, ht⟩
  · exact refText_nil n s w
  · exact refText_int n s w h0 h1
  · have hl : s.data.toList.length = s.size := Array.length_toList
    exact refText_text n s w (by omega)
/-- .. and read back. -/
theorem readBack (k n : Int) (s : ByteArray) (w : World) (g : GoodW k n s.data.toList) (h0 : -9223372036854775808 ≤ n) (h1 : n ≤ 9223372036854775807) (hL : LaidV w) :
    Calls Tryd.prog 45 #[.string ⟨(textV k n s.data.toList).toArray⟩] w fun e w' => e = .returned (.tuple #[.agg #[.int .i64 k, .int .i64 n, .string s], .int .i64 0]) ∧ Below w.heap.size w w' := by
  have hl := textV_len g h0 h1
  refine (read_any ⟨(textV k n s.data.toList).toArray⟩ w (by simp [ByteArray.size]; omega) hL).mono ?_
  rintro e w' ⟨rfl, hb⟩
  refine ⟨?_, hb⟩
  have e1 : (⟨(textV k n s.data.toList).toArray⟩ : ByteArray).data.toList = textV k n s.data.toList := by simp
  rw [e1, read_text k n _ g h0 h1]
  have e2 : (⟨s.data.toList.toArray⟩ : ByteArray) = s := by simp
  unfold rvOf
  simp only [e2]
end Go.Proofs.YtmilcgikncecnaaDoor
