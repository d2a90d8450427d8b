/-
  WHAT IS PROVED: cell.Text of any good value is the plain function textV's text; the walk of the law CellTexts: it returns true for every value, where the library's variables hold what the program's text lays.
-/
import Derived.Test.YtjamocfpfibhfaaDoorReadInt
import Derived.Test.YtjamocfpfibhfaaDoorRefText
import Derived.Test.YtjamocfpfibhfaaDoorLawOrder
import Derived.Test.YtjamocfpfibhfaaDoorLawGood
namespace Go.Proofs.YtjamocfpfibhfaaDoor
open Go.RowKit

theorem itoa_any (n : Int) (w : World) (h0 : -9223372036854775808 ≤ n) (h1 : n ≤ 9223372036854775807) (hL : LaidV w) :
    Calls Tryd.prog 24 #[.int .i64 n] w fun e w' => e = .returned (.string ⟨(Lib.itoa n).toArray⟩) ∧ Below w.heap.size w w' := by
  refine (Tryd.strconv_Itoa n h0 h1 w hL.1).mono ?_
  rintro e w' ⟨rfl, k, os, rfl⟩
  refine ⟨rfl, ⟨rfl, rfl, rfl, ?_, fun i hi => ?_⟩⟩
  · show w.heap.size ≤ (w.heap ++ os).size
    rw [Array.size_append]
    omega
  · show (w.heap ++ os)[i]? = w.heap[i]?
    rw [Array.getElem?_append_left hi]

set_option maxHeartbeats 1000000 in
theorem text_nil (n : Int) (s : ByteArray) (w : World) :
    Calls Tryd.prog 15 #[.agg #[.int .i64 0, .int .i64 n, .string s]] w fun e w' => e = .returned (.string ⟨(textV 0 n s.data.toList).toArray⟩) ∧ Below w.heap.size w w' := by
  rw [textV_0]
  go_enter Tryd.func15, Tryd.ntmps15
  go_wp2_with fail
  go_ret
  exact ⟨ret_str' rfl, b0 _ _⟩
set_option maxHeartbeats 1000000 in
theorem text_int (n : Int) (s : ByteArray) (w : World) (h0 : -9223372036854775808 ≤ n) (h1 : n ≤ 9223372036854775807) (hL : LaidV w) :
    Calls Tryd.prog 15 #[.agg #[.int .i64 1, .int .i64 n, .string s]] w fun e w' => e = .returned (.string ⟨(textV 1 n s.data.toList).toArray⟩) ∧ Below w.heap.size w w' := by
  rw [textV_1]
  have hL2 := hL.keep (b0 w (.cells #[.int .i64 1, .int .i64 n, .string s] 24))
  go_enter Tryd.func15, Tryd.ntmps15
  go_wp2_with (go_at_call 24; refine (itoa_any _ _ h0 h1 hL2).mono ?_; rintro e w2 ⟨rfl, hb2⟩)
  go_ret
  exact ⟨ret_str' rfl, bt (b0 _ _) hb2⟩

/-- Good, in plain words, the length too. -/
def GoodW (k n : Int) (t : List UInt8) : Prop := (k = 0 ∧ n = 0 ∧ t = []) ∨ (k = 1 ∧ t = []) ∨ (k = 2 ∧ n = 0 ∧ t.length ≤ 40)
theorem good_words {k n : Int} {s : ByteArray} (h : goodB k n s = true) : GoodW k n s.data.toList := by
  have hl : s.data.toList.length = s.size := Array.length_toList
  have he : s.size = 0 → s.data.toList = [] := fun h0 => List.length_eq_zero_iff.1 (by omega)
  simp only [goodB, decide_eq_true_eq] at h
  rcases h with ⟨h1, h2, h3⟩ | ⟨h1, h3⟩ | ⟨h1, h2, h3⟩
  · exact Or.inl ⟨h1, h2, he h3⟩
  · exact Or.inr (Or.inl ⟨h1, he h3⟩)
  · exact Or.inr (Or.inr ⟨h1, h2, by omega⟩)
theorem textV_len {k n : Int} {t : List UInt8} (h : GoodW k n t) (h0 : -9223372036854775808 ≤ n) (h1 : n ≤ 9223372036854775807) : (textV k n t).length ≤ 200 := by
  rcases h with ⟨rfl, _, _⟩ | ⟨rfl, _⟩ | ⟨rfl, _, ht⟩
  · rw [textV_0]
    decide
  · rw [textV_1]
    unfold Lib.itoa
    split
    · have := dec_len n.natAbs (by omega)
      simp only [List.length_cons]
      omega
    · have := dec_len n.toNat (by omega)
      omega
  · rw [textV_2]
    have := quoL_len t
    simp
    omega
theorem text_any (k n : Int) (s : ByteArray) (w : World) (g : GoodW k n s.data.toList) (h0 : -9223372036854775808 ≤ n) (h1 : n ≤ 9223372036854775807) (hL : LaidV w) :
    Calls Tryd.prog 15 #[.agg #[.int .i64 k, .int .i64 n, .string s]] w fun e w' => e = .returned (.string ⟨(textV k n s.data.toList).toArray⟩) ∧ Below w.heap.size w w' := by
  rcases g with ⟨rfl, _, _⟩ | ⟨rfl, _⟩ | ⟨rfl, _, ht⟩
  · exact text_nil n s w
  · exact text_int n s w h0 h1 hL
  · have hl : s.data.toList.length = s.size := Array.length_toList
    rw [textV_2]
    exact text_text n s w (by omega)
theorem refText_any (k n : Int) (s : ByteArray) (w : World) (g : GoodW k n s.data.toList) (h0 : -9223372036854775808 ≤ n) (h1 : n ≤ 9223372036854775807) :
    Calls Tryd.prog 17 #[.agg #[.int .i64 k, .int .i64 n, .string s]] w fun e w' => e = .returned (.string ⟨(textV k n s.data.toList).toArray⟩) ∧ Below w.heap.size w w' := by
  rcases g with ⟨rfl, _, _⟩ | ⟨rfl, _⟩ | ⟨rfl, _, ht⟩
  · exact refText_nil n s w
  · exact refText_int n s w h0 h1
  · have hl : s.data.toList.length = s.size := Array.length_toList
    exact refText_text n s w (by omega)
/-- .. and read back. -/
theorem readBack (k n : Int) (s : ByteArray) (w : World) (g : GoodW k n s.data.toList) (h0 : -9223372036854775808 ≤ n) (h1 : n ≤ 9223372036854775807) (hL : LaidV w) :
    Calls Tryd.prog 16 #[.string ⟨(textV k n s.data.toList).toArray⟩] w fun e w' => e = .returned (.tuple #[.agg #[.int .i64 k, .int .i64 n, .string s], .int .i64 0]) ∧ Below w.heap.size w w' := by
  have hl := textV_len g h0 h1
  refine (read_any ⟨(textV k n s.data.toList).toArray⟩ w (by simp [ByteArray.size]; omega) hL).mono ?_
  rintro e w' ⟨rfl, hb⟩
  refine ⟨?_, hb⟩
  have e1 : (⟨(textV k n s.data.toList).toArray⟩ : ByteArray).data.toList = textV k n s.data.toList := by simp
  rw [e1, read_text k n _ g h0 h1]
  have e2 : (⟨s.data.toList.toArray⟩ : ByteArray) = s := by simp
  unfold rvOf
  simp only [e2]

theorem held0n (w : World) (v0 v1 v2 : Value) (t : TypeId) :
    (w.alloc (.cells #[v0, v1, v2] t)).cell? ⟨w.heap.size, 0, none⟩ = some v0 ∧ (w.alloc (.cells #[v0, v1, v2] t)).cell? ⟨w.heap.size, 1, none⟩ = some v1 ∧ (w.alloc (.cells #[v0, v1, v2] t)).cell? ⟨w.heap.size, 2, none⟩ = some v2 ∧
      Below w.heap.size w (w.alloc (.cells #[v0, v1, v2] t)) ∧ w.heap.size < (w.alloc (.cells #[v0, v1, v2] t)).heap.size :=
  ⟨by go_simp, by go_simp, by go_simp, b0 w _, by simp⟩

set_option maxHeartbeats 4000000 in
theorem lawTexts_bad (k n : Int) (s : ByteArray) (w : World) (hs : s.size ≤ maxLen) (G : Hid (goodB k n s = false)) :
    Calls Tryd.prog 6 #[.agg #[.int .i64 k, .int .i64 n, .string s]] w fun e w' => e = .returned (.bool true) ∧ Below w.heap.size w w' := by
  go_enter Tryd.func6, Tryd.ntmps6
  go_wp2_with fail
  have hk0 := held0n w (.int .i64 k) (.int .i64 n) (.string s) 24
  generalize w.alloc (.cells #[.int .i64 k, .int .i64 n, .string s] 24) = W at hk0 ⊢
  refine (awake_any _).mono ?_
  rintro e w1 ⟨rfl, hb1⟩
  have hk1 := held1 hk0 hb1
  go_wp2_with fail
  refine (refGood_no G.out _ hs).mono ?_
  rintro e w2 ⟨rfl, hb2⟩
  have hk2 := held1 hk1 hb2
  go_wp2_with fail
  refine (awake_any _).mono ?_
  rintro e w3 ⟨rfl, hb3⟩
  have hk3 := held1 hk2 hb3
  go_wp2_with fail
  go_ret
  exact ⟨rfl, hk3.2.2.2.1⟩

set_option maxHeartbeats 4000000 in
theorem lawTexts_good (k n : Int) (s : ByteArray) (w : World) (hn : -9223372036854775808 ≤ n ∧ n ≤ 9223372036854775807) (hs : s.size ≤ maxLen) (hL : LaidV w) (G : Hid (goodB k n s = true)) :
    Calls Tryd.prog 6 #[.agg #[.int .i64 k, .int .i64 n, .string s]] w fun e w' => e = .returned (.bool true) ∧ Below w.heap.size w w' := by
  obtain ⟨hn0, hn1⟩ := hn
  have W0 := Lib.hid (good_words G.out)
  have cT := fun (W : World) (h : LaidV W) => text_any k n s W W0.out hn0 hn1 h
  have cR := fun (W : World) (h : LaidV W) => readBack k n s W W0.out hn0 hn1 h
  have cF := fun (W : World) => refText_any k n s W W0.out hn0 hn1
  generalize (⟨(textV k n s.data.toList).toArray⟩ : ByteArray) = T at cT cR cF
  have CT := Lib.hid cT
  have CR := Lib.hid cR
  have CF := Lib.hid cF
  clear cT cR cF
  go_enter Tryd.func6, Tryd.ntmps6
  go_wp2_with fail
  have hk0 := held0n w (.int .i64 k) (.int .i64 n) (.string s) 24
  have hL0 := hL.keep (b0 w (.cells #[.int .i64 k, .int .i64 n, .string s] 24))
  generalize w.alloc (.cells #[.int .i64 k, .int .i64 n, .string s] 24) = W at hk0 hL0 ⊢
  refine (awake_any _).mono ?_
  rintro e w1 ⟨rfl, hb1⟩
  have hk1 := held1 hk0 hb1
  have hL1 := hL0.keep hb1
  go_wp2_with fail
  refine (refGood_yes G.out _ hs).mono ?_
  rintro e w2 ⟨rfl, hb2⟩
  have hk2 := held1 hk1 hb2
  have hL2 := hL1.keep hb2
  go_wp2_with fail
  refine (CT.out _ hL2).mono ?_
  rintro e w3 ⟨rfl, hb3⟩
  have hk3 := held1 hk2 hb3
  have hL3 := hL2.keep hb3
  go_wp2_with fail
  refine (CR.out _ hL3).mono ?_
  rintro e w4 ⟨rfl, hb4⟩
  have hk4 := held1 hk3 hb4
  have hk5 := held1 hk4 (b0 w4 (.cells #[.int .i64 k, .int .i64 n, .string s] 24))
  go_wp2_with fail
  refine (CF.out _).mono ?_
  rintro e w5 ⟨rfl, hb5⟩
  have hk6 := held1 hk5 hb5
  obtain ⟨hc5, hf5⟩ := bcell hb5
  go_wp2_with fail
  go_ret
  exact ⟨rfl, hk6.2.2.2.1⟩

theorem lawTexts_any (k n : Int) (s : ByteArray) (w : World) (_ : -9223372036854775808 ≤ k ∧ k ≤ 9223372036854775807) (hn : -9223372036854775808 ≤ n ∧ n ≤ 9223372036854775807) (hs : s.size ≤ maxLen) (hL : LaidV w) :
    Calls Tryd.prog 6 #[.agg #[.int .i64 k, .int .i64 n, .string s]] w fun e w' => e = .returned (.bool true) ∧ Below w.heap.size w w' := by
  cases g : goodB k n s with
  | false => exact lawTexts_bad k n s w hs g
  | true => exact lawTexts_good k n s w hn hs hL g
end Go.Proofs.YtjamocfpfibhfaaDoor
