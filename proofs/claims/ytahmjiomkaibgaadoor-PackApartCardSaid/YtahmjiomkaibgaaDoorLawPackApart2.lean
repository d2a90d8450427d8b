/-
  WHAT IS PROVED: the statement PackApart's law answers true for every two numbers, texts and values, if package pack's calls answer as PackC2 says. Conditions: those typed in each theorem.
-/
import Derived.Test.YtahmjiomkaibgaaDoorLawPackApart
namespace Go.Proofs.YtahmjiomkaibgaaDoor
open Go.RowKit

set_option maxRecDepth 100000 in
set_option maxHeartbeats 4000000 in
theorem lawPackApart_s {S : Addr} {Rdr : World → Nat → Rest → Prop} (hC : PackC2 S Rdr) (x y : Nat) (s t : ByteArray) (k n k' n' : Int) (p q : ByteArray) (w : World) (hL : LaidP S w)
    (hs : 2000 < s.size) (_hp : p.size ≤ maxLen) (_hq : q.size ≤ maxLen) :
    Calls Tryd.prog 7 #[.agg #[.int .u64 x, .int .u64 y], .agg #[.string s, .string t], .agg #[.int .i64 k, .int .i64 n, .string p, .int .i64 k', .int .i64 n', .string q]] w fun e w' => e = .returned (.bool true) ∧ Below w.heap.size w w' := by
  have HC := Lib.hid hC
  clear hC
  have g1 : (2000 : Int) < (s.size : Int) := by omega
  go_enter Tryd.func7, Tryd.ntmps7
  go_wp2_with fail
  have hb0 := b0 w (.cells #[.int .u64 x, .int .u64 y] 81)
  have hb1 := ba hb0 (.cells #[.string s, .string t] 82)
  have hb2 := ba hb1 (.cells #[.int .i64 k, .int .i64 n, .string p, .int .i64 k', .int .i64 n', .string q] 83)
  have hk0 := Lib.hid (((blk_new w #[.int .u64 x, .int .u64 y] 81).alloc (.cells #[.string s, .string t] 82)).alloc (.cells #[.int .i64 k, .int .i64 n, .string p, .int .i64 k', .int .i64 n', .string q] 83))
  have hk1 := Lib.hid ((blk_at (w := w.alloc (.cells #[.int .u64 x, .int .u64 y] 81)) (b := w.heap.size + 1) (by simp) #[.string s, .string t] 82).alloc (.cells #[.int .i64 k, .int .i64 n, .string p, .int .i64 k', .int .i64 n', .string q] 83))
  have hk2 := Lib.hid (blk_at (w := (w.alloc (.cells #[.int .u64 x, .int .u64 y] 81)).alloc (.cells #[.string s, .string t] 82)) (b := w.heap.size + 1 + 1) (by simp) #[.int .i64 k, .int .i64 n, .string p, .int .i64 k', .int .i64 n', .string q] 83)
  generalize ((w.alloc (.cells #[.int .u64 x, .int .u64 y] 81)).alloc (.cells #[.string s, .string t] 82)).alloc (.cells #[.int .i64 k, .int .i64 n, .string p, .int .i64 k', .int .i64 n', .string q] 83) = W at hb2 hk0 hk1 hk2 ⊢
  have c00 := hk0.out.cell 0
  have c01 := hk0.out.cell 1
  clear hb0 hb1
  go_wp2_with fail
  go_region
  replace hb2 := hb2.drew
  replace hk0 := Lib.hid (blk_drew hk0.out)
  replace hk1 := Lib.hid (blk_drew hk1.out)
  replace hk2 := Lib.hid (blk_drew hk2.out)
  clear c00 c01
  generalize W.drew = W at hb2 hk0 hk1 hk2 ⊢
  go_wp2_with fail
  refine (packAwake HC.out.toPackC _ (hL.keep hb2)).mono ?_
  rintro e w1 ⟨rfl, hb3⟩
  have B1 := bt hb2 hb3
  replace hk1 := Lib.hid (hk1.out.keep hb3)
  replace hk2 := Lib.hid (hk2.out.keep hb3)
  clear hk0 hb2 hb3
  obtain ⟨a0, a1, _⟩ := blk_c2 hk1.out
  obtain ⟨d0, d1, d2, d3, d4, d5, _⟩ := hk2.out.c6
  go_wp2_with fail
  refine (packAwake HC.out.toPackC w1 (hL.keep B1)).mono ?_
  rintro e w2 ⟨rfl, hb2⟩
  go_wp2_with fail
  go_ret
  exact ⟨rfl, bt B1 hb2⟩

set_option maxRecDepth 100000 in
set_option maxHeartbeats 4000000 in
theorem lawPackApart_t {S : Addr} {Rdr : World → Nat → Rest → Prop} (hC : PackC2 S Rdr) (x y : Nat) (s t : ByteArray) (k n k' n' : Int) (p q : ByteArray) (w : World) (hL : LaidP S w)
    (hs : s.size ≤ 2000) (ht : 2000 < t.size) (_hp : p.size ≤ maxLen) (_hq : q.size ≤ maxLen) :
    Calls Tryd.prog 7 #[.agg #[.int .u64 x, .int .u64 y], .agg #[.string s, .string t], .agg #[.int .i64 k, .int .i64 n, .string p, .int .i64 k', .int .i64 n', .string q]] w fun e w' => e = .returned (.bool true) ∧ Below w.heap.size w w' := by
  have HC := Lib.hid hC
  clear hC
  have g1 : (s.size : Int) ≤ 2000 := by omega
  have g2 : (2000 : Int) < (t.size : Int) := by omega
  go_enter Tryd.func7, Tryd.ntmps7
  go_wp2_with fail
  have hb0 := b0 w (.cells #[.int .u64 x, .int .u64 y] 81)
  have hb1 := ba hb0 (.cells #[.string s, .string t] 82)
  have hb2 := ba hb1 (.cells #[.int .i64 k, .int .i64 n, .string p, .int .i64 k', .int .i64 n', .string q] 83)
  have hk0 := Lib.hid (((blk_new w #[.int .u64 x, .int .u64 y] 81).alloc (.cells #[.string s, .string t] 82)).alloc (.cells #[.int .i64 k, .int .i64 n, .string p, .int .i64 k', .int .i64 n', .string q] 83))
  have hk1 := Lib.hid ((blk_at (w := w.alloc (.cells #[.int .u64 x, .int .u64 y] 81)) (b := w.heap.size + 1) (by simp) #[.string s, .string t] 82).alloc (.cells #[.int .i64 k, .int .i64 n, .string p, .int .i64 k', .int .i64 n', .string q] 83))
  have hk2 := Lib.hid (blk_at (w := (w.alloc (.cells #[.int .u64 x, .int .u64 y] 81)).alloc (.cells #[.string s, .string t] 82)) (b := w.heap.size + 1 + 1) (by simp) #[.int .i64 k, .int .i64 n, .string p, .int .i64 k', .int .i64 n', .string q] 83)
  generalize ((w.alloc (.cells #[.int .u64 x, .int .u64 y] 81)).alloc (.cells #[.string s, .string t] 82)).alloc (.cells #[.int .i64 k, .int .i64 n, .string p, .int .i64 k', .int .i64 n', .string q] 83) = W at hb2 hk0 hk1 hk2 ⊢
  have c00 := hk0.out.cell 0
  have c01 := hk0.out.cell 1
  clear hb0 hb1
  go_wp2_with fail
  go_region
  replace hb2 := hb2.drew
  replace hk0 := Lib.hid (blk_drew hk0.out)
  replace hk1 := Lib.hid (blk_drew hk1.out)
  replace hk2 := Lib.hid (blk_drew hk2.out)
  clear c00 c01
  generalize W.drew = W at hb2 hk0 hk1 hk2 ⊢
  go_wp2_with fail
  refine (packAwake HC.out.toPackC _ (hL.keep hb2)).mono ?_
  rintro e w1 ⟨rfl, hb3⟩
  have B1 := bt hb2 hb3
  replace hk1 := Lib.hid (hk1.out.keep hb3)
  replace hk2 := Lib.hid (hk2.out.keep hb3)
  clear hk0 hb2 hb3
  obtain ⟨a0, a1, _⟩ := blk_c2 hk1.out
  obtain ⟨d0, d1, d2, d3, d4, d5, _⟩ := hk2.out.c6
  go_wp2_with fail
  refine (packAwake HC.out.toPackC w1 (hL.keep B1)).mono ?_
  rintro e w2 ⟨rfl, hb2⟩
  go_wp2_with fail
  go_ret
  exact ⟨rfl, bt B1 hb2⟩

set_option maxRecDepth 100000 in
set_option maxHeartbeats 4000000 in
theorem lawPackApart_v {S : Addr} {Rdr : World → Nat → Rest → Prop} (hC : PackC2 S Rdr) (x y : Nat) (s t : ByteArray) (k n k' n' : Int) (p q : ByteArray) (w : World) (hL : LaidP S w)
    (hs : s.size ≤ 2000) (ht : t.size ≤ 2000) (hg : goodB k n p = false) (hp : p.size ≤ maxLen) (_hq : q.size ≤ maxLen) :
    Calls Tryd.prog 7 #[.agg #[.int .u64 x, .int .u64 y], .agg #[.string s, .string t], .agg #[.int .i64 k, .int .i64 n, .string p, .int .i64 k', .int .i64 n', .string q]] w fun e w' => e = .returned (.bool true) ∧ Below w.heap.size w w' := by
  have HC := Lib.hid hC
  clear hC
  have g1 : (s.size : Int) ≤ 2000 := by omega
  have g2 : (t.size : Int) ≤ 2000 := by omega
  have HG := Lib.hid hg
  clear hg
  go_enter Tryd.func7, Tryd.ntmps7
  go_wp2_with fail
  have hb0 := b0 w (.cells #[.int .u64 x, .int .u64 y] 81)
  have hb1 := ba hb0 (.cells #[.string s, .string t] 82)
  have hb2 := ba hb1 (.cells #[.int .i64 k, .int .i64 n, .string p, .int .i64 k', .int .i64 n', .string q] 83)
  have hk0 := Lib.hid (((blk_new w #[.int .u64 x, .int .u64 y] 81).alloc (.cells #[.string s, .string t] 82)).alloc (.cells #[.int .i64 k, .int .i64 n, .string p, .int .i64 k', .int .i64 n', .string q] 83))
  have hk1 := Lib.hid ((blk_at (w := w.alloc (.cells #[.int .u64 x, .int .u64 y] 81)) (b := w.heap.size + 1) (by simp) #[.string s, .string t] 82).alloc (.cells #[.int .i64 k, .int .i64 n, .string p, .int .i64 k', .int .i64 n', .string q] 83))
  have hk2 := Lib.hid (blk_at (w := (w.alloc (.cells #[.int .u64 x, .int .u64 y] 81)).alloc (.cells #[.string s, .string t] 82)) (b := w.heap.size + 1 + 1) (by simp) #[.int .i64 k, .int .i64 n, .string p, .int .i64 k', .int .i64 n', .string q] 83)
  generalize ((w.alloc (.cells #[.int .u64 x, .int .u64 y] 81)).alloc (.cells #[.string s, .string t] 82)).alloc (.cells #[.int .i64 k, .int .i64 n, .string p, .int .i64 k', .int .i64 n', .string q] 83) = W at hb2 hk0 hk1 hk2 ⊢
  have c00 := hk0.out.cell 0
  have c01 := hk0.out.cell 1
  clear hb0 hb1
  go_wp2_with fail
  go_region
  replace hb2 := hb2.drew
  replace hk0 := Lib.hid (blk_drew hk0.out)
  replace hk1 := Lib.hid (blk_drew hk1.out)
  replace hk2 := Lib.hid (blk_drew hk2.out)
  clear c00 c01
  generalize W.drew = W at hb2 hk0 hk1 hk2 ⊢
  go_wp2_with fail
  refine (packAwake HC.out.toPackC _ (hL.keep hb2)).mono ?_
  rintro e w1 ⟨rfl, hb3⟩
  have B1 := bt hb2 hb3
  replace hk1 := Lib.hid (hk1.out.keep hb3)
  replace hk2 := Lib.hid (hk2.out.keep hb3)
  clear hk0 hb2 hb3
  obtain ⟨a0, a1, _⟩ := blk_c2 hk1.out
  obtain ⟨d0, d1, d2, d3, d4, d5, _⟩ := hk2.out.c6
  go_wp2_with fail
  refine (goodV_is k n p _ false HG.out hp).mono ?_
  rintro e w2 ⟨rfl, hb2⟩
  have B2 := bt B1 hb2
  replace hk1 := Lib.hid (hk1.out.keep hb2)
  replace hk2 := Lib.hid (hk2.out.keep hb2)
  clear a0 a1 d0 d1 d2 d3 d4 d5 hb2
  obtain ⟨a0, a1, _⟩ := blk_c2 hk1.out
  obtain ⟨d0, d1, d2, d3, d4, d5, _⟩ := hk2.out.c6
  go_wp2_with fail
  refine (packAwake HC.out.toPackC w2 (hL.keep B2)).mono ?_
  rintro e w3 ⟨rfl, hb3⟩
  go_wp2_with fail
  go_ret
  exact ⟨rfl, bt B2 hb3⟩

set_option maxRecDepth 100000 in
set_option maxHeartbeats 4000000 in
theorem lawPackApart_v2 {S : Addr} {Rdr : World → Nat → Rest → Prop} (hC : PackC2 S Rdr) (x y : Nat) (s t : ByteArray) (k n k' n' : Int) (p q : ByteArray) (w : World) (hL : LaidP S w)
    (hs : s.size ≤ 2000) (ht : t.size ≤ 2000) (hg : goodB k n p = true) (hg' : goodB k' n' q = false) (hp : p.size ≤ maxLen) (hq : q.size ≤ maxLen) :
    Calls Tryd.prog 7 #[.agg #[.int .u64 x, .int .u64 y], .agg #[.string s, .string t], .agg #[.int .i64 k, .int .i64 n, .string p, .int .i64 k', .int .i64 n', .string q]] w fun e w' => e = .returned (.bool true) ∧ Below w.heap.size w w' := by
  have HC := Lib.hid hC
  clear hC
  have g1 : (s.size : Int) ≤ 2000 := by omega
  have g2 : (t.size : Int) ≤ 2000 := by omega
  have HG := Lib.hid hg
  have HG' := Lib.hid hg'
  clear hg hg'
  go_enter Tryd.func7, Tryd.ntmps7
  go_wp2_with fail
  have hb0 := b0 w (.cells #[.int .u64 x, .int .u64 y] 81)
  have hb1 := ba hb0 (.cells #[.string s, .string t] 82)
  have hb2 := ba hb1 (.cells #[.int .i64 k, .int .i64 n, .string p, .int .i64 k', .int .i64 n', .string q] 83)
  have hk0 := Lib.hid (((blk_new w #[.int .u64 x, .int .u64 y] 81).alloc (.cells #[.string s, .string t] 82)).alloc (.cells #[.int .i64 k, .int .i64 n, .string p, .int .i64 k', .int .i64 n', .string q] 83))
  have hk1 := Lib.hid ((blk_at (w := w.alloc (.cells #[.int .u64 x, .int .u64 y] 81)) (b := w.heap.size + 1) (by simp) #[.string s, .string t] 82).alloc (.cells #[.int .i64 k, .int .i64 n, .string p, .int .i64 k', .int .i64 n', .string q] 83))
  have hk2 := Lib.hid (blk_at (w := (w.alloc (.cells #[.int .u64 x, .int .u64 y] 81)).alloc (.cells #[.string s, .string t] 82)) (b := w.heap.size + 1 + 1) (by simp) #[.int .i64 k, .int .i64 n, .string p, .int .i64 k', .int .i64 n', .string q] 83)
  generalize ((w.alloc (.cells #[.int .u64 x, .int .u64 y] 81)).alloc (.cells #[.string s, .string t] 82)).alloc (.cells #[.int .i64 k, .int .i64 n, .string p, .int .i64 k', .int .i64 n', .string q] 83) = W at hb2 hk0 hk1 hk2 ⊢
  have c00 := hk0.out.cell 0
  have c01 := hk0.out.cell 1
  clear hb0 hb1
  go_wp2_with fail
  go_region
  replace hb2 := hb2.drew
  replace hk0 := Lib.hid (blk_drew hk0.out)
  replace hk1 := Lib.hid (blk_drew hk1.out)
  replace hk2 := Lib.hid (blk_drew hk2.out)
  clear c00 c01
  generalize W.drew = W at hb2 hk0 hk1 hk2 ⊢
  go_wp2_with fail
  refine (packAwake HC.out.toPackC _ (hL.keep hb2)).mono ?_
  rintro e w1 ⟨rfl, hb3⟩
  have B1 := bt hb2 hb3
  replace hk1 := Lib.hid (hk1.out.keep hb3)
  replace hk2 := Lib.hid (hk2.out.keep hb3)
  clear hk0 hb2 hb3
  obtain ⟨a0, a1, _⟩ := blk_c2 hk1.out
  obtain ⟨d0, d1, d2, d3, d4, d5, _⟩ := hk2.out.c6
  go_wp2_with fail
  refine (goodV_is k n p _ true HG.out hp).mono ?_
  rintro e w2 ⟨rfl, hb2⟩
  have B2 := bt B1 hb2
  replace hk1 := Lib.hid (hk1.out.keep hb2)
  replace hk2 := Lib.hid (hk2.out.keep hb2)
  clear a0 a1 d0 d1 d2 d3 d4 d5 hb2
  obtain ⟨a0, a1, _⟩ := blk_c2 hk1.out
  obtain ⟨d0, d1, d2, d3, d4, d5, _⟩ := hk2.out.c6
  go_wp2_with fail
  refine (goodV_is k' n' q _ false HG'.out hq).mono ?_
  rintro e w3 ⟨rfl, hb3⟩
  have B3 := bt B2 hb3
  replace hk1 := Lib.hid (hk1.out.keep hb3)
  replace hk2 := Lib.hid (hk2.out.keep hb3)
  clear a0 a1 d0 d1 d2 d3 d4 d5 hb3
  obtain ⟨a0, a1, _⟩ := blk_c2 hk1.out
  obtain ⟨d0, d1, d2, d3, d4, d5, _⟩ := hk2.out.c6
  go_wp2_with fail
  refine (packAwake HC.out.toPackC w3 (hL.keep B3)).mono ?_
  rintro e w4 ⟨rfl, hb4⟩
  go_wp2_with fail
  go_ret
  exact ⟨rfl, bt B3 hb4⟩

theorem lawPackApart_any {S : Addr} {Rdr : World → Nat → Rest → Prop} (hC : PackC2 S Rdr) (x y : Nat) (s t : ByteArray) (k n k' n' : Int) (p q : ByteArray) (w : World) (hL : LaidP S w) (hx : x < 18446744073709551616) (hy : y < 18446744073709551616)
    (hp : p.size ≤ maxLen) (hq : q.size ≤ maxLen) (hn : -9223372036854775808 ≤ n ∧ n ≤ 9223372036854775807) (hn' : -9223372036854775808 ≤ n' ∧ n' ≤ 9223372036854775807) :
    Calls Tryd.prog 7 #[.agg #[.int .u64 x, .int .u64 y], .agg #[.string s, .string t], .agg #[.int .i64 k, .int .i64 n, .string p, .int .i64 k', .int .i64 n', .string q]] w fun e w' => e = .returned (.bool true) ∧ Below w.heap.size w w' := by
  by_cases h1 : s.size ≤ 2000
  · by_cases h2 : t.size ≤ 2000
    · cases h3 : goodB k n p with
      | false => exact lawPackApart_v hC x y s t k n k' n' p q w hL h1 h2 h3 hp hq
      | true =>
        cases h4 : goodB k' n' q with
        | false => exact lawPackApart_v2 hC x y s t k n k' n' p q w hL h1 h2 h3 h4 hp hq
        | true => exact lawPackApart_good hC x y s t k n k' n' p q w hL hx hy h1 h2 hp hq hn hn' h3 h4
    · exact lawPackApart_t hC x y s t k n k' n' p q w hL h1 (by omega) hp hq
  · exact lawPackApart_s hC x y s t k n k' n' p q w hL (by omega) hp hq
end Go.Proofs.YtahmjiomkaibgaaDoor
