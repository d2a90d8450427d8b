/-
  WHAT IS PROVED: the document's bytes of good values (spinneyref05.Value). Conditions: those typed in the theorem.
-/
import Derived.Test.YtkfhkfddhijkcaaPackRef
import Derived.Test.YtkfhkfddhijkcaaGQ1
namespace Go.Proofs.Ytkfhkfddhijkcaa
open Go.RowKit

/-- A value's bytes. -/
def valB (k n : Int) (s : List UInt8) : List UInt8 := numB k.toNat ++ (if k = 1 then numB (zig n) else if k = 2 then textB s else [])

theorem textB_small {s : ByteArray} (h : s.size ≤ 1000000) : (textB s.data.toList).length ≤ 1000009 := by
  have hl : s.data.toList.length = s.size := Array.length_toList
  have := numB_small (n := s.size) (by omega)
  unfold textB
  rw [List.length_append, hl]
  omega
theorem valB_0 (n : Int) (s : List UInt8) : valB 0 n s = numB 0 := by simp [valB]
theorem valB_1 (n : Int) (s : List UInt8) : valB 1 n s = numB 1 ++ numB (zig n) := by simp [valB]
theorem valB_2 (n : Int) (s : List UInt8) : valB 2 n s = numB 2 ++ textB s := by simp [valB]

set_option maxRecDepth 100000 in
set_option maxHeartbeats 1000000 in
theorem refPValue_any (k n : Int) (s : ByteArray) (w : World) (hk : k = 0 ∨ k = 1 ∨ k = 2) (h0 : -9223372036854775808 ≤ n) (h1 : n ≤ 9223372036854775807) (hs : s.size ≤ 1000000) :
    Calls Try.prog 115 #[.agg #[.int .i64 k, .int .i64 n, .string s]] w fun e w' => PutP w (valB k n s.data.toList) e w' := by
  obtain ⟨i0, hi0, hz0, hz1, hz2⟩ := info_parts byt_info
  have H0 := Lib.hid h0
  have H1 := Lib.hid h1
  clear h0 h1
  rcases hk with rfl | rfl | rfl
  all_goals
    go_enter Try.func115, Try.ntmps115
    go_wp2_with fail
  · have hC := blk_new w #[.int .i64 0, .int .i64 n, .string s] 35
    have hB := b0 w (.cells #[.int .i64 0, .int .i64 n, .string s] 35)
    generalize w.alloc (.cells #[.int .i64 0, .int .i64 n, .string s] 35) = W at hC hB ⊢
    refine (refNumber_any 0 W (by omega)).mono ?_
    rintro e w1 ⟨⟨A, m, c, rfl, hO⟩, hb⟩
    obtain ⟨c0, c1, c2, c3⟩ := (hC.keep hb).c3
    go_wp2_with fail
    go_ret
    exact ⟨⟨A, m, c, rfl, by rw [valB_0]; exact hO.less hB.size⟩, bt hB hb⟩
  · have hC := blk_new w #[.int .i64 1, .int .i64 n, .string s] 35
    have hB := b0 w (.cells #[.int .i64 1, .int .i64 n, .string s] 35)
    generalize w.alloc (.cells #[.int .i64 1, .int .i64 n, .string s] 35) = W at hC hB ⊢
    refine (refNumber_any 1 W (by omega)).mono ?_
    rintro e w1 ⟨⟨A, m, c, rfl, hO⟩, hb⟩
    have hC1 := hC.keep hb
    obtain ⟨c0, c1, c2, c3⟩ := hC1.c3
    have hk1 := hO.len
    have hm1 : m ≤ 9 := by have := numB_small (n := 1) (by omega); omega
    clear hk1
    go_wp2_with fail
    refine (refPInt_any n w1 H0.out H1.out).mono ?_
    rintro e w2 ⟨⟨A2, m2, d, rfl, hO2⟩, hb2⟩
    have hC2 := hC1.keep hb2
    obtain ⟨d0, d1, d2, d3⟩ := hC2.c3
    have hk2 := hO2.len
    have HK2 := Lib.hid hk2
    have hm2 : m2 ≤ 9 := by have := numB_small (zig_lt H0.out H1.out); omega
    clear hk2 c0 c1 c2 c3
    have hO1 := hO.keep hb2
    have hBB := bt hb hb2
    go_wp2_with (at_builtin; refine wpList_apB (base := W.heap.size) (n := m) (m := m2) (l := numB 1) (l2 := numB (zig n)) (by rfl) _ _ (by rfl) Try.underlying105 Try.underlying105 hi0 hz0 hz1 hz2 (by rfl) (by rfl) hO1 hO2.rd HK2.out (m + m2) rfl (by omega) hBB.size ?_; intro A5 c5 w5 hO5 hb5 hg5; obtain ⟨q0, q1, q2, q3⟩ := (hC.keep (hBB.trans hb5)).c3)
    go_ret
    exact ⟨⟨A5, m + m2, c5, rfl, by rw [valB_1]; exact hO5.less hB.size⟩, bt hB (hBB.trans hb5)⟩
  · have hC := blk_new w #[.int .i64 2, .int .i64 n, .string s] 35
    have hB := b0 w (.cells #[.int .i64 2, .int .i64 n, .string s] 35)
    generalize w.alloc (.cells #[.int .i64 2, .int .i64 n, .string s] 35) = W at hC hB ⊢
    refine (refNumber_any 2 W (by omega)).mono ?_
    rintro e w1 ⟨⟨A, m, c, rfl, hO⟩, hb⟩
    have hC1 := hC.keep hb
    obtain ⟨c0, c1, c2, c3⟩ := hC1.c3
    have hk1 := hO.len
    have hm1 : m ≤ 9 := by have := numB_small (n := 2) (by omega); omega
    clear hk1
    go_wp2_with fail
    refine (refPText_any s w1 hs).mono ?_
    rintro e w2 ⟨⟨A2, m2, d, rfl, hO2⟩, hb2⟩
    have hC2 := hC1.keep hb2
    obtain ⟨d0, d1, d2, d3⟩ := hC2.c3
    have hk2 := hO2.len
    have HK2 := Lib.hid hk2
    have hm2 : m2 ≤ 1000009 := by have := textB_small hs; omega
    clear hk2 c0 c1 c2 c3
    have hO1 := hO.keep hb2
    have hBB := bt hb hb2
    go_wp2_with (at_builtin; refine wpList_apB (base := W.heap.size) (n := m) (m := m2) (l := numB 2) (l2 := textB s.data.toList) (by rfl) _ _ (by rfl) Try.underlying105 Try.underlying105 hi0 hz0 hz1 hz2 (by rfl) (by rfl) hO1 hO2.rd HK2.out (m + m2) rfl (by omega) hBB.size ?_; intro A5 c5 w5 hO5 hb5 hg5; obtain ⟨q0, q1, q2, q3⟩ := (hC.keep (hBB.trans hb5)).c3)
    go_ret
    exact ⟨⟨A5, m + m2, c5, rfl, by rw [valB_2]; exact hO5.less hB.size⟩, bt hB (hBB.trans hb5)⟩
end Go.Proofs.Ytkfhkfddhijkcaa
