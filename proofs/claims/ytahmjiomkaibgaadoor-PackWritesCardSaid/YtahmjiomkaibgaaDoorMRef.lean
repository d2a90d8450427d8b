/-
  WHAT IS PROVED: the document's bytes of numbers, ints, texts and flags (spinneyref05), for all. Conditions: those typed in each theorem. · the document's bytes of good values (spinneyref05.Value). Conditions: those typed in the theorem. · the document's bytes of good writes (spinneyref05.Write). Conditions: those typed in the theorem. · plain facts, and, as definitions, what the walks of layer 5's statements take of package pack's calls (a reader is any predicate of worlds that its calls carry). The definitions are proved elsewhere, of the code itself. The chapter's examples hold, if the calls answer so.
-/
import Derived.Test.YtahmjiomkaibgaaDoorMMath
import Derived.Test.YtahmjiomkaibgaaDoorMWords
import Derived.IntWalk
import Derived.Lib.AppendStr
import Derived.Deep.RegionHeld3
import Derived.Deep.DrawnRows
namespace Go.Proofs.YtahmjiomkaibgaaDoor
open Go.RowKit

/-- A row of bytes that a call answered. -/
def PutP (w : World) (l : List UInt8) (e : Ending) (w' : World) : Prop :=
  (∃ (A : Option Addr) (n c : Nat), e = .returned (.slice A n c) ∧ OwnB w.heap.size w' A n c l) ∧ Below w.heap.size w w'

/-- One byte in a row of its own. -/
theorem litB (w : World) {base : Nat} (z : Int) (c : UInt8) (h : z = (c.toNat : Int)) (hb : base ≤ w.heap.size) : OwnB base (w.alloc (.cells #[.int .u8 z] 5)) (some ⟨w.heap.size, 0, none⟩) 1 1 [c] := by
  subst h
  exact OwnB.lit w #[.int .u8 (c.toNat : Int)] [c] rfl rfl hb (by unfold maxLen; omega)
theorem mod_byte (v : Nat) : (v : Int) % 256 = ((UInt8.ofNat (v % 256)).toNat : Int) := by
  rw [toNat_mod]
  omega

theorem wrap_quo {v n : Nat} (hv : v ≤ n) (hn : n < 18446744073709551616) : IntKind.u64.wrap ((v : Int) / 256) = ((v / 256 : Nat) : Int) := by
  rw [IntKind.wrap_u64]
  omega

set_option maxRecDepth 100000 in
set_option maxHeartbeats 1000000 in
theorem refNumber_any (n : Nat) (w : World) (hn : n < 18446744073709551616) :
    Calls Tryd.prog 11 #[.int .u64 n] w fun e w' => PutP w (numB n) e w' := by
  obtain ⟨i0, hi0, hz0, hz1, hz2⟩ := info_parts byt_info
  have h8 := beB_eight hn
  have H8 := Lib.hid h8
  have HN := Lib.hid hn
  clear h8 hn
  go_enter Tryd.func11, Tryd.ntmps11
  go_wp2_with fail
  go_loopw [0, 3] (fun t u wr => ∃ (v : Nat) (A : Option Addr) (k c : Nat) (l : List UInt8), t = .int .u64 v ∧ u = .slice A k c ∧ v ≤ n ∧ OwnB w.heap.size wr A k c l ∧ Hid (beB n = beB v ++ l) ∧ Below w.heap.size w wr) (fun t _ _ => (intOf t).toNat)
  case atStart => exact ⟨n, none, 0, 0, [], rfl, rfl, Nat.le_refl _, OwnB.nil _ _, by simp [Hid], Below.refl _ _⟩
  case round =>
    obtain ⟨v, A, k, c, l, rfl, rfl, hv, hO, hL, hB⟩ := hrel
    have hk := hO.len
    have hk8 : k ≤ 8 := by
      have h1 := congrArg List.length hL.out
      rw [List.length_append, hk] at h1
      have := H8.out
      omega
    have HK := Lib.hid hk
    clear hk
    by_cases h0 : v = 0
    · have g0 : decide (0 < v) = false := by simp; omega
      have HL : Hid (numB n = UInt8.ofNat k :: l) := by
        have h1 := hL.out
        rw [h0, beB_zero, List.nil_append] at h1
        show _ = _
        unfold numB
        rw [h1, HK.out]
      have hz : (k : Int) = ((UInt8.ofNat k).toNat : Int) := by rw [UInt8.toNat_ofNat']; omega
      have hown := litB wr (base := w.heap.size) (k : Int) (UInt8.ofNat k) hz hB.size
      have hrd := hO.rd.keep (b0 wr (.cells #[.int .u8 (k : Int)] 5)) (Nat.le_refl _)
      have hB2 := hB.alloc hB.size (.cells #[.int .u8 (k : Int)] 5)
      have q1 : (k : Int) ≤ 8 := by omega
      have q2 : (0 : Int) ≤ (k : Int) := by omega
      have HZ := Lib.hid hz
      clear h0 hz
      go_wp2_with (at_builtin; refine wpList_apB (base := w.heap.size) (n := 1) (m := k) (l := [UInt8.ofNat k]) (l2 := l) (by rfl) _ _ (by rfl) Tryd.underlying22 Tryd.underlying22 hi0 hz0 hz1 hz2 (by rfl) (by rfl) hown hrd HK.out (1 + k) rfl (by omega) hB2.size ?_; intro A5 c5 w5 hO5 hb5 hg5)
      go_ret
      exact ⟨⟨A5, 1 + k, c5, rfl, by rw [HL.out]; exact hO5⟩, hB2.trans hb5⟩
    · have g0 : (0 : Int) < (v : Int) := by omega
      have HL : Hid (beB n = beB (v / 256) ++ ([UInt8.ofNat (v % 256)] ++ l)) := by
        show _ = _
        rw [hL.out, beB_pos h0, List.append_assoc]
      have HQ := Lib.hid (wrap_quo hv HN.out)
      have hown := litB wr (base := w.heap.size) ((v : Int) % 256) (UInt8.ofNat (v % 256)) (mod_byte v) hB.size
      have hrd := hO.rd.keep (b0 wr (.cells #[.int .u8 ((v : Int) % 256)] 5)) (Nat.le_refl _)
      have hB2 := hB.alloc hB.size (.cells #[.int .u8 ((v : Int) % 256)] 5)
      go_wp2_with (at_builtin; refine wpList_apB (base := w.heap.size) (n := 1) (m := k) (l := [UInt8.ofNat (v % 256)]) (l2 := l) (by rfl) _ _ (by rfl) Tryd.underlying22 Tryd.underlying22 hi0 hz0 hz1 hz2 (by rfl) (by rfl) hown hrd HK.out (1 + k) rfl (by omega) hB2.size ?_; intro A5 c5 w5 hO5 hb5 hg5)
      go_roundw
      case rel => exact ⟨v / 256, A5, 1 + k, c5, [UInt8.ofNat (v % 256)] ++ l, by rw [HQ.out], rfl, by omega, hO5, HL, hB2.trans hb5⟩
      case measure => simp only [intOf, HQ.out]; omega

theorem zig_neg {n : Int} (h : n < 0) (h0 : -9223372036854775808 ≤ n) : IntKind.u64.wrap (IntKind.u64.wrap (2 * IntKind.u64.wrap (-IntKind.u64.wrap n)) - 1) = ((zig n : Nat) : Int) := by
  unfold zig
  rw [if_pos h]
  simp only [IntKind.wrap_u64]
  omega
theorem zig_pos {n : Int} (h : ¬ n < 0) (h1 : n ≤ 9223372036854775807) : IntKind.u64.wrap (2 * IntKind.u64.wrap n) = ((zig n : Nat) : Int) := by
  unfold zig
  rw [if_neg h]
  simp only [IntKind.wrap_u64]
  omega

set_option maxRecDepth 100000 in
set_option maxHeartbeats 1000000 in
theorem refPInt_any (n : Int) (w : World) (h0 : -9223372036854775808 ≤ n) (h1 : n ≤ 9223372036854775807) :
    Calls Tryd.prog 13 #[.int .i64 n] w fun e w' => PutP w (numB (zig n)) e w' := by
  have HZ := Lib.hid (zig_lt h0 h1)
  by_cases hn : n < 0
  · have HE := Lib.hid (zig_neg hn h0)
    clear h0 h1
    go_enter Tryd.func13, Tryd.ntmps13
    go_wp2_with fail
    rw [HE.out]
    refine (refNumber_any _ w HZ.out).mono ?_
    rintro e w1 ⟨⟨A, m, c, rfl, hO⟩, hb⟩
    go_wp2_with fail
    go_ret
    exact ⟨⟨A, m, c, rfl, hO⟩, hb⟩
  · have HE := Lib.hid (zig_pos hn h1)
    clear h0 h1
    go_enter Tryd.func13, Tryd.ntmps13
    go_wp2_with fail
    rw [HE.out]
    refine (refNumber_any _ w HZ.out).mono ?_
    rintro e w1 ⟨⟨A, m, c, rfl, hO⟩, hb⟩
    go_wp2_with fail
    go_ret
    exact ⟨⟨A, m, c, rfl, hO⟩, hb⟩

theorem refFlag_any (f : Bool) (w : World) :
    Calls Tryd.prog 17 #[.bool f] w fun e w' => PutP w (flagB f) e w' := by
  cases f with
  | true =>
    have hO := litB w (base := w.heap.size) 1 1 rfl (Nat.le_refl _)
    go_enter Tryd.func17, Tryd.ntmps17
    go_wp2_with fail
    go_ret
    exact ⟨⟨_, 1, 1, rfl, hO⟩, b0 _ _⟩
  | false =>
    have hO := litB w (base := w.heap.size) 0 0 rfl (Nat.le_refl _)
    go_enter Tryd.func17, Tryd.ntmps17
    go_wp2_with fail
    go_ret
    exact ⟨⟨_, 1, 1, rfl, hO⟩, b0 _ _⟩

theorem strCells_is (s : ByteArray) : Lib.strCells s = bytV s.data.toList := rfl
section
variable {P : Program} {w : World} {t u : TypeId} {i : TypeInfo} {base : Nat} {A : Option Addr} {n c : Nat} {l : List UInt8} {o : Oper} {a : Act} {Q : Exit → Act → World → Prop} {ops : Array Oper}
theorem run_apT {ty : TypeId} (ht : P.underlying t = some (.slice 5)) (hu : P.underlying u = some .string) (hi : P.info? 5 = some i) (hz : i.zero = some (.int .u8 0)) (hs : i.size = 1) (hy : i.bytes = 1)
    (hown : OwnB base w A n c l) (s : ByteArray) (hsz : n + s.size ≤ 1099511627776) (hbase : base ≤ w.heap.size) :
    ∃ A' c' w', (Builtin.append_ #[t, u] ty #[.slice A n c, .string s]).run P w = .ok (.slice A' (n + s.size) c') w' ∧ OwnB base w' A' (n + s.size) c' (l ++ s.data.toList) ∧ Below base w w' ∧ w.grownBy w' (A.map (·.block)) := by
  obtain ⟨v', w', hrun, h2, h3, _⟩ := Lib.run_append_own_string (P := P) w base t u ty 5 i ht hu hi hz hs hy (.slice A n c) n (bytV l) hown s (by unfold maxLen; omega) (by omega) hbase
  have hb : Below base w w' := (Below.refl base w).grown h3 hbase (fun k hk => (World.ownsRow.lt hown k hk).1)
  have hv : ∃ A' c', v' = .slice A' (n + s.size) c' := by
    rcases h2.2 with ⟨e1, e2⟩ | ⟨g, cap, cur, e1, _⟩
    · exact ⟨none, 0, by rw [e1, e2]⟩
    · exact ⟨_, _, e1⟩
  obtain ⟨A', c', rfl⟩ := hv
  refine ⟨A', c', w', hrun, ?_, hb, by cases A <;> exact h3⟩
  unfold OwnB
  rw [show bytV (l ++ s.data.toList) = bytV l ++ bytV s.data.toList from List.map_append]
  exact h2
theorem wp_apT {K : Act → World → Prop} (sl x : Operand) (ho : o.op = .call { callee := .builtin .append, args := #[sl, x], argTypes := #[t, u] })
    (ht : P.underlying t = some (.slice 5)) (hu : P.underlying u = some .string) (hi : P.info? 5 = some i) (hz : i.zero = some (.int .u8 0)) (hs : i.size = 1) (hy : i.bytes = 1) (s : ByteArray)
    (h1 : a.eval sl = .slice A n c) (h2 : a.eval x = .string s) (hown : OwnB base w A n c l) (N : Nat) (hN : n + s.size = N) (hsz : n + s.size ≤ 1099511627776) (hbase : base ≤ w.heap.size)
    (h : ∀ A' c' w', OwnB base w' A' N c' (l ++ s.data.toList) → Below base w w' → w.grownBy w' (A.map (·.block)) → K (a.put o.dst (.slice A' N c')) w') : o.wp P a w K Q := by
  subst hN
  obtain ⟨A', c', w', hrun, k1, k2, k3⟩ := run_apT (P := P) (ty := o.type) (w := w) ht hu hi hz hs hy hown s hsz hbase
  unfold Oper.wp execOp
  simp only [ho, resolve, invoke, builtin, Sem.run_bind, Sem.run_pure, Result.andThen_ok, List.map_toArray, List.map_cons, List.map_nil, h1, h2, hrun]
  exact h A' c' w' k1 k2 k3
theorem wpList_apT {rest : List Oper} (hgd : o.guard = none) (sl x : Operand) (ho : o.op = .call { callee := .builtin .append, args := #[sl, x], argTypes := #[t, u] })
    (ht : P.underlying t = some (.slice 5)) (hu : P.underlying u = some .string) (hi : P.info? 5 = some i) (hz : i.zero = some (.int .u8 0)) (hs : i.size = 1) (hy : i.bytes = 1) (s : ByteArray)
    (h1 : a.eval sl = .slice A n c) (h2 : a.eval x = .string s) (hown : OwnB base w A n c l) (N : Nat) (hN : n + s.size = N) (hsz : n + s.size ≤ 1099511627776) (hbase : base ≤ w.heap.size)
    (h : ∀ A' c' w', OwnB base w' A' N c' (l ++ s.data.toList) → Below base w w' → w.grownBy w' (A.map (·.block)) → wpList P ops Q rest (a.put o.dst (.slice A' N c')) w') : wpList P ops Q (o :: rest) a w :=
  wpList_plain hgd fun _ hK => wp_apT sl x ho ht hu hi hz hs hy s h1 h2 hown N hN hsz hbase fun A' c' w' k1 k2 k3 => hK _ _ (h A' c' w' k1 k2 k3)
end

theorem numB_small {n : Nat} (h : n < 18446744073709551616) : (numB n).length ≤ 9 := by
  have := beB_eight h
  rw [numB_len]
  omega
theorem wrap_size {n : Nat} (h : n ≤ 1099511627776) : IntKind.u64.wrap (n : Int) = (n : Int) := by
  rw [IntKind.wrap_u64]
  omega

set_option maxRecDepth 100000 in
set_option maxHeartbeats 1000000 in
theorem refPText_any (s : ByteArray) (w : World) (hs : s.size ≤ 1000000) :
    Calls Tryd.prog 15 #[.string s] w fun e w' => PutP w (textB s.data.toList) e w' := by
  obtain ⟨i0, hi0, hz0, hz1, hz2⟩ := info_parts byt_info
  have hl : s.data.toList.length = s.size := Array.length_toList
  have HL := Lib.hid hl
  clear hl
  have s0 : (0 : Int) ≤ (s.size : Int) := by omega
  have s1 : (s.size : Int) ≤ 1000000 := by omega
  go_enter Tryd.func15, Tryd.ntmps15
  go_wp2_with fail
  refine (refNumber_any s.size w (by omega)).mono ?_
  rintro e w1 ⟨⟨A, m, c, rfl, hO⟩, hb⟩
  have hm := numB_small (n := s.size) (by omega)
  have hk := hO.len
  have hm2 : m ≤ 9 := by omega
  clear hm hk
  go_wp2_with (at_builtin; refine wpList_apT (base := w.heap.size) (n := m) (l := numB s.size) (by rfl) _ _ (by rfl) Tryd.underlying22 Tryd.underlying9 hi0 hz0 hz1 hz2 s (by rfl) (by rfl) hO (m + s.size) rfl (by omega) hb.size ?_; intro A5 c5 w5 hO5 hb5 hg5)
  go_ret
  refine ⟨⟨A5, m + s.size, c5, rfl, ?_⟩, hb.trans hb5⟩
  unfold textB
  rw [HL.out]
  exact hO5
end Go.Proofs.YtahmjiomkaibgaaDoor

namespace Go.Proofs.YtahmjiomkaibgaaDoor
open Go.RowKit

/-- A value's bytes. -/
def valB (k n : Int) (s : List UInt8) : List UInt8 := numB k.toNat ++ (if k = 1 then numB (zig n) else if k = 2 then textB s else [])

theorem textB_small {s : ByteArray} (h : s.size ≤ 1000000) : (textB s.data.toList).length ≤ 1000009 := by
  have hl : s.data.toList.length = s.size := Array.length_toList
  have := numB_small (n := s.size) (by omega)
  unfold textB
  rw [List.length_append, hl]
  omega
theorem valB_0 (n : Int) (s : List UInt8) : valB 0 n s = numB 0 := by simp [valB]
theorem valB_1 (n : Int) (s : List UInt8) : valB 1 n s = numB 1 ++ numB (zig n) := by simp [valB]
theorem valB_2 (n : Int) (s : List UInt8) : valB 2 n s = numB 2 ++ textB s := by simp [valB]

set_option maxRecDepth 100000 in
set_option maxHeartbeats 1000000 in
theorem refPValue_any (k n : Int) (s : ByteArray) (w : World) (hk : k = 0 ∨ k = 1 ∨ k = 2) (h0 : -9223372036854775808 ≤ n) (h1 : n ≤ 9223372036854775807) (hs : s.size ≤ 1000000) :
    Calls Tryd.prog 50 #[.agg #[.int .i64 k, .int .i64 n, .string s]] w fun e w' => PutP w (valB k n s.data.toList) e w' := by
  obtain ⟨i0, hi0, hz0, hz1, hz2⟩ := info_parts byt_info
  have H0 := Lib.hid h0
  have H1 := Lib.hid h1
  clear h0 h1
  rcases hk with rfl | rfl | rfl
  all_goals
    go_enter Tryd.func50, Tryd.ntmps50
    go_wp2_with fail
  · have hC := blk_new w #[.int .i64 0, .int .i64 n, .string s] 44
    have hB := b0 w (.cells #[.int .i64 0, .int .i64 n, .string s] 44)
    generalize w.alloc (.cells #[.int .i64 0, .int .i64 n, .string s] 44) = W at hC hB ⊢
    refine (refNumber_any 0 W (by omega)).mono ?_
    rintro e w1 ⟨⟨A, m, c, rfl, hO⟩, hb⟩
    obtain ⟨c0, c1, c2, c3⟩ := (hC.keep hb).c3
    go_wp2_with fail
    go_ret
    exact ⟨⟨A, m, c, rfl, by rw [valB_0]; exact hO.less hB.size⟩, bt hB hb⟩
  · have hC := blk_new w #[.int .i64 1, .int .i64 n, .string s] 44
    have hB := b0 w (.cells #[.int .i64 1, .int .i64 n, .string s] 44)
    generalize w.alloc (.cells #[.int .i64 1, .int .i64 n, .string s] 44) = W at hC hB ⊢
    refine (refNumber_any 1 W (by omega)).mono ?_
    rintro e w1 ⟨⟨A, m, c, rfl, hO⟩, hb⟩
    have hC1 := hC.keep hb
    obtain ⟨c0, c1, c2, c3⟩ := hC1.c3
    have hk1 := hO.len
    have hm1 : m ≤ 9 := by have := numB_small (n := 1) (by omega); omega
    clear hk1
    go_wp2_with fail
    refine (refPInt_any n w1 H0.out H1.out).mono ?_
    rintro e w2 ⟨⟨A2, m2, d, rfl, hO2⟩, hb2⟩
    have hC2 := hC1.keep hb2
    obtain ⟨d0, d1, d2, d3⟩ := hC2.c3
    have hk2 := hO2.len
    have HK2 := Lib.hid hk2
    have hm2 : m2 ≤ 9 := by have := numB_small (zig_lt H0.out H1.out); omega
    clear hk2 c0 c1 c2 c3
    have hO1 := hO.keep hb2
    have hBB := bt hb hb2
    go_wp2_with (at_builtin; refine wpList_apB (base := W.heap.size) (n := m) (m := m2) (l := numB 1) (l2 := numB (zig n)) (by rfl) _ _ (by rfl) Tryd.underlying22 Tryd.underlying22 hi0 hz0 hz1 hz2 (by rfl) (by rfl) hO1 hO2.rd HK2.out (m + m2) rfl (by omega) hBB.size ?_; intro A5 c5 w5 hO5 hb5 hg5; obtain ⟨q0, q1, q2, q3⟩ := (hC.keep (hBB.trans hb5)).c3)
    go_ret
    exact ⟨⟨A5, m + m2, c5, rfl, by rw [valB_1]; exact hO5.less hB.size⟩, bt hB (hBB.trans hb5)⟩
  · have hC := blk_new w #[.int .i64 2, .int .i64 n, .string s] 44
    have hB := b0 w (.cells #[.int .i64 2, .int .i64 n, .string s] 44)
    generalize w.alloc (.cells #[.int .i64 2, .int .i64 n, .string s] 44) = W at hC hB ⊢
    refine (refNumber_any 2 W (by omega)).mono ?_
    rintro e w1 ⟨⟨A, m, c, rfl, hO⟩, hb⟩
    have hC1 := hC.keep hb
    obtain ⟨c0, c1, c2, c3⟩ := hC1.c3
    have hk1 := hO.len
    have hm1 : m ≤ 9 := by have := numB_small (n := 2) (by omega); omega
    clear hk1
    go_wp2_with fail
    refine (refPText_any s w1 hs).mono ?_
    rintro e w2 ⟨⟨A2, m2, d, rfl, hO2⟩, hb2⟩
    have hC2 := hC1.keep hb2
    obtain ⟨d0, d1, d2, d3⟩ := hC2.c3
    have hk2 := hO2.len
    have HK2 := Lib.hid hk2
    have hm2 : m2 ≤ 1000009 := by have := textB_small hs; omega
    clear hk2 c0 c1 c2 c3
    have hO1 := hO.keep hb2
    have hBB := bt hb hb2
    go_wp2_with (at_builtin; refine wpList_apB (base := W.heap.size) (n := m) (m := m2) (l := numB 2) (l2 := textB s.data.toList) (by rfl) _ _ (by rfl) Tryd.underlying22 Tryd.underlying22 hi0 hz0 hz1 hz2 (by rfl) (by rfl) hO1 hO2.rd HK2.out (m + m2) rfl (by omega) hBB.size ?_; intro A5 c5 w5 hO5 hb5 hg5; obtain ⟨q0, q1, q2, q3⟩ := (hC.keep (hBB.trans hb5)).c3)
    go_ret
    exact ⟨⟨A5, m + m2, c5, rfl, by rw [valB_2]; exact hO5.less hB.size⟩, bt hB (hBB.trans hb5)⟩
end Go.Proofs.YtahmjiomkaibgaaDoor

namespace Go.Proofs.YtahmjiomkaibgaaDoor
open Go.RowKit
attribute [local go_sem ↓] Go.wp_at_zero Go.wp_at_succ

/-- A write as a value, and as cells. -/
abbrev wrC (dev seq : Nat) (K : Nat) (ky : ByteArray) (ka na : Int) (sa : ByteArray) (kb nb : Int) (sb : ByteArray) : Array Value :=
  #[.int .i64 dev, .int .i64 seq, .int .i64 K, .string ky, .int .i64 ka, .int .i64 na, .string sa, .int .i64 kb, .int .i64 nb, .string sb]
/-- Its bytes. -/
def wrB (dev seq K : Nat) (ky : List UInt8) (ka na : Int) (sa : List UInt8) (kb nb : Int) (sb : List UInt8) : List UInt8 :=
  numB dev ++ numB seq ++ numB K ++ textB ky ++ valB ka na sa ++ valB kb nb sb
/-- The ten cells of a block. -/
def Ten (W : World) (b : Nat) (dev seq : Nat) (K : Nat) (ky : ByteArray) (ka na : Int) (sa : ByteArray) (kb nb : Int) (sb : ByteArray) : Prop :=
  W.cell? ⟨b, 0, none⟩ = some (.int .i64 dev) ∧ W.cell? ⟨b, 1, none⟩ = some (.int .i64 seq) ∧ W.cell? ⟨b, 2, none⟩ = some (.int .i64 K) ∧ W.cell? ⟨b, 3, none⟩ = some (.string ky) ∧ W.cell? ⟨b, 4, none⟩ = some (.int .i64 ka) ∧
    W.cell? ⟨b, 5, none⟩ = some (.int .i64 na) ∧ W.cell? ⟨b, 6, none⟩ = some (.string sa) ∧ W.cell? ⟨b, 7, none⟩ = some (.int .i64 kb) ∧ W.cell? ⟨b, 8, none⟩ = some (.int .i64 nb) ∧ W.cell? ⟨b, 9, none⟩ = some (.string sb)
theorem Ten.keep {W W' : World} {b dev seq K : Nat} {ky : ByteArray} {ka na : Int} {sa : ByteArray} {kb nb : Int} {sb : ByteArray} (h : Ten W b dev seq K ky ka na sa kb nb sb) {B : Nat} (hb : Below B W W') (hB : b < B) : Ten W' b dev seq K ky ka na sa kb nb sb := by
  have hc : ∀ i, W'.cell? ⟨b, i, none⟩ = W.cell? ⟨b, i, none⟩ := fun i => hb.cell (p := ⟨b, i, none⟩) hB
  unfold Ten at h ⊢
  simp only [hc]
  exact h
theorem ten_new (w : World) (dev seq K : Nat) (ky : ByteArray) (ka na : Int) (sa : ByteArray) (kb nb : Int) (sb : ByteArray) (t : TypeId) : Ten (w.alloc (.cells (wrC dev seq K ky ka na sa kb nb sb) t)) w.heap.size dev seq K ky ka na sa kb nb sb := by
  have h := blk_new w (wrC dev seq K ky ka na sa kb nb sb) t
  exact ⟨h.cell 0, h.cell 1, h.cell 2, h.cell 3, h.cell 4, h.cell 5, h.cell 6, h.cell 7, h.cell 8, h.cell 9⟩
theorem OwnB.keepG {base : Nat} {W W' : World} {A A3 : Option Addr} {n c : Nat} {l : List UInt8} (h : OwnB base W A n c l) (hg : W.grownBy W' (A3.map (·.block))) (hlt : ∀ a, A3 = some a → a.block < base) : OwnB base W' A n c l := by
  refine World.ownsRow.kept h hg ?_
  cases A with
  | none => exact Or.inl rfl
  | some a =>
    right
    cases A3 with
    | none => simp [Value.ownBlock]
    | some a3 =>
      have h1 := (h.blk rfl).1
      have h2 := hlt a3 rfl
      simp only [Value.ownBlock, Option.map_some, ne_eq, Option.some.injEq]
      omega
theorem below_h {H : Nat} {w w' : World} (h : Below w.heap.size w w') (hH : H ≤ w.heap.size) : Below H w w' := h.mono hH

section
variable {W w' w1 : World} {p q : Addr} {u v : Value} {H : Nat}
theorem sP0 (h : W.cell? p = some u) (k : W.cell? q = some v) : W.drew.cell? p = some u ∧ W.drew.cell? q = some v ∧ Below W.heap.size W W.drew := ⟨h, k, (Below.refl _ _).drew⟩
theorem sP1 (h : w'.cell? p = some u ∧ w'.cell? q = some v ∧ Below H W w') (hp : p.block < H) (hq : q.block < H) (hH : H ≤ W.heap.size) (hb : Below w'.heap.size w' w1) : w1.cell? p = some u ∧ w1.cell? q = some v ∧ Below H W w1 := by
  have hz := h.2.2.size
  exact ⟨(hb.cell (by omega)).trans h.1, (hb.cell (by omega)).trans h.2.1, h.2.2.trans (hb.mono (by omega))⟩
theorem sP2 (h : w'.cell? p = some u ∧ w'.cell? q = some v ∧ Below H W w') (hp : p.block < H) (hq : q.block < H) (hb : Below H w' w1) : w1.cell? p = some u ∧ w1.cell? q = some v ∧ Below H W w1 :=
  ⟨(hb.cell hp).trans h.1, (hb.cell hq).trans h.2.1, h.2.2.trans hb⟩
theorem lessP {A : Option Addr} {n c : Nat} {l : List UInt8} (h : OwnB w'.heap.size w1 A n c l) (hS : w'.cell? p = some u ∧ w'.cell? q = some v ∧ Below H W w') (hH : H ≤ W.heap.size) : OwnB H w1 A n c l := h.less (Nat.le_trans hH hS.2.2.size)
theorem szP (hS : w'.cell? p = some u ∧ w'.cell? q = some v ∧ Below H W w') (hH : H ≤ W.heap.size) : H ≤ w'.heap.size := Nat.le_trans hH hS.2.2.size
end
section
variable {W W0 w' w1 : World} {p q : Addr} {u v : Value} {H b : Nat} {v4 v5 v6 v7 v8 v9 : Value}
theorem sQ0 (h : W.cell? p = some u) (k : W.cell? q = some v) (hB : Below H W0 W) : W.drew.cell? p = some u ∧ W.drew.cell? q = some v ∧ Below H W0 W.drew := ⟨h, k, hB.drew⟩
/-- Six cells, from the fifth on. -/
theorem s60 (h : W.cell? ⟨b, 4, none⟩ = some v4 ∧ W.cell? ⟨b, 5, none⟩ = some v5 ∧ W.cell? ⟨b, 6, none⟩ = some v6 ∧ W.cell? ⟨b, 7, none⟩ = some v7 ∧ W.cell? ⟨b, 8, none⟩ = some v8 ∧ W.cell? ⟨b, 9, none⟩ = some v9) (hB : Below H W0 W) :
    W.drew.cell? ⟨b, 4, none⟩ = some v4 ∧ W.drew.cell? ⟨b, 5, none⟩ = some v5 ∧ W.drew.cell? ⟨b, 6, none⟩ = some v6 ∧ W.drew.cell? ⟨b, 7, none⟩ = some v7 ∧ W.drew.cell? ⟨b, 8, none⟩ = some v8 ∧ W.drew.cell? ⟨b, 9, none⟩ = some v9 ∧ Below H W0 W.drew := ⟨h.1, h.2.1, h.2.2.1, h.2.2.2.1, h.2.2.2.2.1, h.2.2.2.2.2, hB.drew⟩
theorem s62 (h : w'.cell? ⟨b, 4, none⟩ = some v4 ∧ w'.cell? ⟨b, 5, none⟩ = some v5 ∧ w'.cell? ⟨b, 6, none⟩ = some v6 ∧ w'.cell? ⟨b, 7, none⟩ = some v7 ∧ w'.cell? ⟨b, 8, none⟩ = some v8 ∧ w'.cell? ⟨b, 9, none⟩ = some v9 ∧ Below H W0 w') (hp : b < H) (hb : Below H w' w1) :
    w1.cell? ⟨b, 4, none⟩ = some v4 ∧ w1.cell? ⟨b, 5, none⟩ = some v5 ∧ w1.cell? ⟨b, 6, none⟩ = some v6 ∧ w1.cell? ⟨b, 7, none⟩ = some v7 ∧ w1.cell? ⟨b, 8, none⟩ = some v8 ∧ w1.cell? ⟨b, 9, none⟩ = some v9 ∧ Below H W0 w1 := by
  have hc : ∀ i, w1.cell? ⟨b, i, none⟩ = w'.cell? ⟨b, i, none⟩ := fun i => hb.cell (p := ⟨b, i, none⟩) hp
  simp only [hc]
  exact ⟨h.1, h.2.1, h.2.2.1, h.2.2.2.1, h.2.2.2.2.1, h.2.2.2.2.2.1, h.2.2.2.2.2.2.trans hb⟩
theorem s61 (h : w'.cell? ⟨b, 4, none⟩ = some v4 ∧ w'.cell? ⟨b, 5, none⟩ = some v5 ∧ w'.cell? ⟨b, 6, none⟩ = some v6 ∧ w'.cell? ⟨b, 7, none⟩ = some v7 ∧ w'.cell? ⟨b, 8, none⟩ = some v8 ∧ w'.cell? ⟨b, 9, none⟩ = some v9 ∧ Below H W0 w') (hp : b < H) (hH : H ≤ W0.heap.size) (hb : Below w'.heap.size w' w1) :
    w1.cell? ⟨b, 4, none⟩ = some v4 ∧ w1.cell? ⟨b, 5, none⟩ = some v5 ∧ w1.cell? ⟨b, 6, none⟩ = some v6 ∧ w1.cell? ⟨b, 7, none⟩ = some v7 ∧ w1.cell? ⟨b, 8, none⟩ = some v8 ∧ w1.cell? ⟨b, 9, none⟩ = some v9 ∧ Below H W0 w1 :=
  s62 h hp (hb.mono (Nat.le_trans hH h.2.2.2.2.2.2.size))
theorem b6 (h : w'.cell? ⟨b, 4, none⟩ = some v4 ∧ w'.cell? ⟨b, 5, none⟩ = some v5 ∧ w'.cell? ⟨b, 6, none⟩ = some v6 ∧ w'.cell? ⟨b, 7, none⟩ = some v7 ∧ w'.cell? ⟨b, 8, none⟩ = some v8 ∧ w'.cell? ⟨b, 9, none⟩ = some v9 ∧ Below H W0 w') : Below H W0 w' := h.2.2.2.2.2.2
end
theorem ten_tail {W w' : World} {b K : Nat} {ky : ByteArray} {ka na : Int} {sa : ByteArray} {kb nb : Int} {sb : ByteArray}
    (h : W.cell? ⟨b, 2, none⟩ = some (.int .i64 K) ∧ W.cell? ⟨b, 3, none⟩ = some (.string ky) ∧ W.cell? ⟨b, 4, none⟩ = some (.int .i64 ka) ∧ W.cell? ⟨b, 5, none⟩ = some (.int .i64 na) ∧ W.cell? ⟨b, 6, none⟩ = some (.string sa) ∧ W.cell? ⟨b, 7, none⟩ = some (.int .i64 kb) ∧ W.cell? ⟨b, 8, none⟩ = some (.int .i64 nb) ∧ W.cell? ⟨b, 9, none⟩ = some (.string sb))
    {H : Nat} (hb : Below H W w') (hB : b < H) : w'.cell? ⟨b, 2, none⟩ = some (.int .i64 K) ∧ w'.cell? ⟨b, 3, none⟩ = some (.string ky) ∧ w'.cell? ⟨b, 4, none⟩ = some (.int .i64 ka) ∧ w'.cell? ⟨b, 5, none⟩ = some (.int .i64 na) ∧ w'.cell? ⟨b, 6, none⟩ = some (.string sa) ∧ w'.cell? ⟨b, 7, none⟩ = some (.int .i64 kb) ∧ w'.cell? ⟨b, 8, none⟩ = some (.int .i64 nb) ∧ w'.cell? ⟨b, 9, none⟩ = some (.string sb) := by
  have hc : ∀ i, w'.cell? ⟨b, i, none⟩ = W.cell? ⟨b, i, none⟩ := fun i => hb.cell (p := ⟨b, i, none⟩) hB
  simp only [hc]
  exact h
theorem six_keep {W w1 w2 : World} {b H : Nat} {v4 v5 v6 v7 v8 v9 : Value} (h : w1.cell? ⟨b, 4, none⟩ = some v4 ∧ w1.cell? ⟨b, 5, none⟩ = some v5 ∧ w1.cell? ⟨b, 6, none⟩ = some v6 ∧ w1.cell? ⟨b, 7, none⟩ = some v7 ∧ w1.cell? ⟨b, 8, none⟩ = some v8 ∧ w1.cell? ⟨b, 9, none⟩ = some v9)
    (h1 : Below H W w1) (h2 : Below H W w2) (hB : b < H) : w2.cell? ⟨b, 4, none⟩ = some v4 ∧ w2.cell? ⟨b, 5, none⟩ = some v5 ∧ w2.cell? ⟨b, 6, none⟩ = some v6 ∧ w2.cell? ⟨b, 7, none⟩ = some v7 ∧ w2.cell? ⟨b, 8, none⟩ = some v8 ∧ w2.cell? ⟨b, 9, none⟩ = some v9 := by
  have hc : ∀ i, w2.cell? ⟨b, i, none⟩ = w1.cell? ⟨b, i, none⟩ := fun i => (h2.cell (p := ⟨b, i, none⟩) hB).trans (h1.cell (p := ⟨b, i, none⟩) hB).symm
  simp only [hc]
  exact h
theorem refPText_b (s : ByteArray) (w : World) (hs : s.size ≤ 1000) : Calls Tryd.prog 15 #[.string s] w fun e w' => (∃ (A : Option Addr) (m c : Nat), e = .returned (.slice A m c) ∧ OwnB w.heap.size w' A m c (textB s.data.toList) ∧ m ≤ 1000009) ∧ Below w.heap.size w w' :=
  (refPText_any s w (by omega)).mono fun _ _ ⟨⟨A, m, c, he, hO⟩, hb⟩ => ⟨⟨A, m, c, he, hO, by have := textB_small (s := s) (by omega); have := hO.len; omega⟩, hb⟩
theorem valB_small {k n : Int} {s : ByteArray} (hk : k = 0 ∨ k = 1 ∨ k = 2) (h0 : -9223372036854775808 ≤ n) (h1 : n ≤ 9223372036854775807) (hs : s.size ≤ 1000000) : (valB k n s.data.toList).length ≤ 1000018 := by
  rcases hk with rfl | rfl | rfl
  · rw [valB_0]
    have := numB_small (n := 0) (by omega)
    omega
  · rw [valB_1, List.length_append]
    have := numB_small (n := 1) (by omega)
    have := numB_small (zig_lt h0 h1)
    omega
  · rw [valB_2, List.length_append]
    have := numB_small (n := 2) (by omega)
    have := textB_small hs
    omega
theorem refPValue_b (k n : Int) (s : ByteArray) (w : World) (hk : k = 0 ∨ k = 1 ∨ k = 2) (h0 : -9223372036854775808 ≤ n) (h1 : n ≤ 9223372036854775807) (hs : s.size ≤ 1000) :
    Calls Tryd.prog 50 #[.agg #[.int .i64 k, .int .i64 n, .string s]] w fun e w' => (∃ (A : Option Addr) (m c : Nat), e = .returned (.slice A m c) ∧ OwnB w.heap.size w' A m c (valB k n s.data.toList) ∧ m ≤ 1000018) ∧ Below w.heap.size w w' :=
  (refPValue_any k n s w hk h0 h1 (by omega)).mono fun _ _ ⟨⟨A, m, c, he, hO⟩, hb⟩ => ⟨⟨A, m, c, he, hO, by have := valB_small (s := s) hk h0 h1 (by omega); have := hO.len; omega⟩, hb⟩
theorem refNumber_b (n : Nat) (w : World) (hn : n ≤ 1000) : Calls Tryd.prog 11 #[.int .u64 n] w fun e w' => (∃ (A : Option Addr) (m c : Nat), e = .returned (.slice A m c) ∧ OwnB w.heap.size w' A m c (numB n) ∧ m ≤ 9) ∧ Below w.heap.size w w' :=
  (refNumber_any n w (by omega)).mono fun _ _ ⟨⟨A, m, c, he, hO⟩, hb⟩ => ⟨⟨A, m, c, he, hO, by have := numB_small (n := n) (by omega); have := hO.len; omega⟩, hb⟩

set_option maxRecDepth 100000 in
set_option maxHeartbeats 8000000 in
theorem refPWrite_any (dev seq K : Nat) (ky : ByteArray) (ka na : Int) (sa : ByteArray) (kb nb : Int) (sb : ByteArray) (w : World) (hd : dev ≤ 1000) (hq : seq ≤ 1000) (hK : K ≤ 1000) (hky : ky.size ≤ 1000)
    (hka : ka = 0 ∨ ka = 1 ∨ ka = 2) (ha0 : -9223372036854775808 ≤ na) (ha1 : na ≤ 9223372036854775807) (hsa : sa.size ≤ 1000) (hkb : kb = 0 ∨ kb = 1 ∨ kb = 2) (hb0 : -9223372036854775808 ≤ nb) (hb1 : nb ≤ 9223372036854775807) (hsb : sb.size ≤ 1000) :
    Calls Tryd.prog 23 #[.agg (wrC dev seq K ky ka na sa kb nb sb)] w fun e w' => PutP w (wrB dev seq K ky.data.toList ka na sa.data.toList kb nb sb.data.toList) e w' := by
  obtain ⟨i0, hi0, hz0, hz1, hz2⟩ := info_parts byt_info
  have HVa := Lib.hid (fun W => refPValue_b ka na sa W hka ha0 ha1 hsa)
  have HVb := Lib.hid (fun W => refPValue_b kb nb sb W hkb hb0 hb1 hsb)
  have d0 : (0 : Int) ≤ (dev : Int) := by omega
  have d1 : (dev : Int) ≤ 1000 := by omega
  have s0 : (0 : Int) ≤ (seq : Int) := by omega
  have s1 : (seq : Int) ≤ 1000 := by omega
  have k0 : (0 : Int) ≤ (K : Int) := by omega
  have k1 : (K : Int) ≤ 1000 := by omega
  clear hka hkb ha0 ha1 hb0 hb1
  go_enter Tryd.func23, Tryd.ntmps23
  go_wp2_with fail
  have hT := ten_new w dev seq K ky ka na sa kb nb sb 48
  have hB := b0 w (.cells (wrC dev seq K ky ka na sa kb nb sb) 48)
  have hlt : w.heap.size < (w.alloc (.cells (wrC dev seq K ky ka na sa kb nb sb) 48)).heap.size := by simp
  generalize w.alloc (.cells (wrC dev seq K ky ka na sa kb nb sb) 48) = W at hT hB hlt ⊢
  have HB := Lib.hid hB
  clear hB
  generalize w.heap.size = b at hT hlt ⊢
  obtain ⟨t0, t1, t2⟩ := hT
  have T2 := Lib.hid t2
  clear t2
  have hle := Nat.le_refl W.heap.size
  have wd : IntKind.u64.wrap (dev : Int) = (dev : Int) := wrap_size (by omega)
  have wq : IntKind.u64.wrap (seq : Int) = (seq : Int) := wrap_size (by omega)
  go_region_held3 (fun w' => w'.cell? ⟨b, 0, none⟩ = some (.int .i64 dev) ∧ w'.cell? ⟨b, 1, none⟩ = some (.int .i64 seq) ∧ Below W.heap.size W w')
    (first | assumption | exact sP0 t0 t1 | exact sP2 (by assumption) hlt hlt (by assumption) | exact sP1 (by assumption) hlt hlt hle (by assumption))
    (first
      | (go_at_call 11; ((with_reducible refine (refNumber_b dev _ hd).mono ?_); rintro e w1 ⟨⟨A1, m1, c1, rfl, hO1, hm1⟩, hb1⟩; replace hO1 := lessP hO1 (by assumption) hle; try replace hO2 := hO2.keep hb1))
      | (go_at_call 11; ((with_reducible refine (refNumber_b seq _ hq).mono ?_); rintro e w2 ⟨⟨A2, m2, c2, rfl, hO2, hm2⟩, hb2⟩; replace hO2 := lessP hO2 (by assumption) hle; try replace hO1 := hO1.keep hb2))
      | (refine step_apB (o := ⟨some 14, _, _, _, _, _⟩) (base := W.heap.size) (n := m1) (m := m2) (l := numB dev) (l2 := numB seq) (by rfl) _ _ (by rfl) Tryd.underlying22 Tryd.underlying22 hi0 hz0 hz1 hz2 (by rfl) (by rfl) hO1 hO2.rd hO2.len (m1 + m2) rfl (by omega) (szP (by assumption) hle) ?_; intro A3 c3 w3 hO3 hb3 hg3))
  have hS1 := (by assumption : _ ∧ _ ∧ Below W.heap.size W w3).2.2
  obtain ⟨t2, t3, t4⟩ := ten_tail T2.out hS1 hlt
  have T4 := Lib.hid t4
  have hn3 : m1 + m2 ≤ 18 := by omega
  clear hO1 hO2 hb1 hb2 hb3 hg3 t0 t1 T2 t4 wd wq hm1 hm2
  generalize m1 + m2 = n3 at hO3 hn3 ⊢
  have wK : IntKind.u64.wrap (K : Int) = (K : Int) := wrap_size (by omega)
  go_wp2_with fail
  replace hO3 := hO3.drew_
  go_region_held3 (fun w' => w'.cell? ⟨b, 2, none⟩ = some (.int .i64 K) ∧ w'.cell? ⟨b, 3, none⟩ = some (.string ky) ∧ Below W.heap.size W w')
    (first | assumption | exact sQ0 t2 t3 hS1 | exact sP2 (by assumption) hlt hlt (by assumption) | exact sP1 (by assumption) hlt hlt hle (by assumption))
    (first
      | (go_at_call 11; ((with_reducible refine (refNumber_b K _ hK).mono ?_); rintro e w4 ⟨⟨A4, m4, c4, rfl, hO4, hm4⟩, hb4⟩; replace hO4 := lessP hO4 (by assumption) hle; replace hO3 := hO3.keep hb4))
      | (refine step_apB (o := ⟨some 21, _, _, _, _, _⟩) (base := W.heap.size) (n := n3) (m := m4) (l := numB dev ++ numB seq) (l2 := numB K) (by rfl) _ _ (by rfl) Tryd.underlying22 Tryd.underlying22 hi0 hz0 hz1 hz2 (by rfl) (by rfl) hO3 hO4.rd hO4.len (n3 + m4) rfl (by omega) (szP (by assumption) hle) ?_; intro A5 c5 w5 hO5 hb5 hg5)
      | (go_at_call 15; ((with_reducible refine (refPText_b ky _ hky).mono ?_); rintro e w6 ⟨⟨A6, m6, c6, rfl, hO6, hm6⟩, hb6⟩; replace hO6 := lessP hO6 (by assumption) hle; replace hO5 := hO5.keep hb6))
      | (refine step_apB (o := ⟨some 26, _, _, _, _, _⟩) (base := W.heap.size) (n := n3 + m4) (m := m6) (l := numB dev ++ numB seq ++ numB K) (l2 := textB ky.data.toList) (by rfl) _ _ (by rfl) Tryd.underlying22 Tryd.underlying22 hi0 hz0 hz1 hz2 (by rfl) (by rfl) hO5 hO6.rd hO6.len (n3 + m4 + m6) rfl (by omega) (szP (by assumption) hle) ?_; intro A7 c7 w7 hO7 hb7 hg7))
  have hS2 := (by assumption : _ ∧ _ ∧ Below W.heap.size W w7).2.2
  have t5 := six_keep T4.out hS1 hS2 hlt
  have hn7 : n3 + m4 + m6 ≤ 1000050 := by omega
  clear hO3 hO4 hO5 hO6 hb4 hb5 hb6 hb7 hg5 hg7 t2 t3 wK hm4 hm6 hS1
  generalize n3 + m4 + m6 = n7 at hO7 hn7 ⊢
  have T5 := Lib.hid t5
  clear t5 T4
  go_wp2_with fail
  replace hO7 := hO7.drew_
  go_region_held3 (fun w' => w'.cell? ⟨b, 4, none⟩ = some (.int .i64 ka) ∧ w'.cell? ⟨b, 5, none⟩ = some (.int .i64 na) ∧ w'.cell? ⟨b, 6, none⟩ = some (.string sa) ∧ w'.cell? ⟨b, 7, none⟩ = some (.int .i64 kb) ∧ w'.cell? ⟨b, 8, none⟩ = some (.int .i64 nb) ∧ w'.cell? ⟨b, 9, none⟩ = some (.string sb) ∧ Below W.heap.size W w')
    (first | assumption | exact s60 T5.out hS2 | exact s62 (by assumption) hlt (by assumption) | exact s61 (by assumption) hlt hle (by assumption))
    (first
      | (go_at_call 50; ((with_reducible refine (HVa.out _).mono ?_); rintro e w8 ⟨⟨A8, m8, c8, rfl, hO8, hm8⟩, hb8⟩; replace hO8 := hO8.less (Nat.le_trans hle (b6 (by assumption)).size); replace hO7 := hO7.keep hb8))
      | (refine step_apB (o := ⟨some 32, _, _, _, _, _⟩) (base := W.heap.size) (n := n7) (m := m8) (l := numB dev ++ numB seq ++ numB K ++ textB ky.data.toList) (l2 := valB ka na sa.data.toList) (by rfl) _ _ (by rfl) Tryd.underlying22 Tryd.underlying22 hi0 hz0 hz1 hz2 (by rfl) (by rfl) hO7 hO8.rd hO8.len (n7 + m8) rfl (by omega) (b6 (by assumption)).size ?_; intro A9 c9 w9 hO9 hb9 hg9)
      | (go_at_call 50; ((with_reducible refine (HVb.out _).mono ?_); rintro e w10 ⟨⟨A10, m10, c10, rfl, hO10, hm10⟩, hb10⟩; replace hO10 := hO10.less (Nat.le_trans hle (b6 (by assumption)).size); replace hO9 := hO9.keep hb10))
      | (refine step_apB (o := ⟨some 37, _, _, _, _, _⟩) (base := W.heap.size) (n := n7 + m8) (m := m10) (l := numB dev ++ numB seq ++ numB K ++ textB ky.data.toList ++ valB ka na sa.data.toList) (l2 := valB kb nb sb.data.toList) (by rfl) _ _ (by rfl) Tryd.underlying22 Tryd.underlying22 hi0 hz0 hz1 hz2 (by rfl) (by rfl) hO9 hO10.rd hO10.len (n7 + m8 + m10) rfl (by omega) (b6 (by assumption)).size ?_; intro A11 c11 w11 hO11 hb11 hg11))
  have hS3 := b6 (by assumption : _ ∧ _ ∧ _ ∧ _ ∧ _ ∧ _ ∧ Below W.heap.size W w11)
  go_wp2_with fail
  go_ret
  exact ⟨⟨A11, n7 + m8 + m10, c11, rfl, hO11.less HB.out.size⟩, bt HB.out hS3⟩
end Go.Proofs.YtahmjiomkaibgaaDoor

namespace Go.Proofs.YtahmjiomkaibgaaDoor
open Go.RowKit

/-- What the code reads of the package variables: errors.errorType, and pack's sentinel, whose text lies at S. -/
def LaidP (S : Addr) (W : World) : Prop :=
  W.cell? ⟨1, 0, none⟩ = some (.iface 137 (.agg #[.pointer (some ⟨2, 93, none⟩)])) ∧ W.cell? ⟨0, 0, none⟩ = some (.iface 152 (.pointer (some S)))
theorem LaidP.keep {S : Addr} {W W' : World} (h : LaidP S W) (hb : Below W.heap.size W W') : LaidP S W' :=
  ⟨(hb.cell (World.block_lt_of_cell? W _ h.1)).trans h.1, (hb.cell (World.block_lt_of_cell? W _ h.2)).trans h.2⟩
/-- What a reader has left; none: it has an error. -/
abbrev Rest := Option (List UInt8)
def numOf (st : Rest) (most : Nat) : Nat × Rest := match st with
  | none => (0, none)
  | some b => if (takeNum b most).2 = 0 then (0, none) else ((takeNum b most).1, some (b.drop (takeNum b most).2))
def intOfR (st : Rest) : Int × Rest := match st with
  | none => (0, none)
  | some b => if (takeIntB b).2 = 0 then (0, none) else ((takeIntB b).1, some (b.drop (takeIntB b).2))
def textOf (st : Rest) (most : Nat) : List UInt8 × Rest := match st with
  | none => ([], none)
  | some b => if (takeTextB b most).2 = 0 then ([], none) else ((takeTextB b most).1, some (b.drop (takeTextB b most).2))
def flagOf (st : Rest) : Bool × Rest := match st with
  | none => (false, none)
  | some b => if (takeFlagB b).2 = 0 then (false, none) else ((takeFlagB b).1, some (b.drop (takeFlagB b).2))
def endOf (st : Rest) : Int := match st with
  | some [] => 0
  | _ => 2
/-- Bytes that a call answered. -/
def PutR (w : World) (L : List UInt8) (e : Ending) (w' : World) : Prop :=
  (∃ (A : Option Addr) (n c : Nat), e = .returned (.slice A n c) ∧ L.length = n ∧ RdB w'.heap.size w' A L ∧ n ≤ c) ∧ Below w.heap.size w w'
/-- A write that is all nought. -/
abbrev wr0 : Value := .agg #[.int .i64 0, .int .i64 0, .int .i64 0, .string ⟨#[]⟩, .int .i64 0, .int .i64 0, .string ⟨#[]⟩, .int .i64 0, .int .i64 0, .string ⟨#[]⟩]
/-- What the calls answer, and keep. -/
structure PackC (S : Addr) (Rdr : World → Nat → Rest → Prop) : Prop where
  keep : ∀ (W W' : World) (g : Nat) (st : Rest) (row : Option Nat), Rdr W g st → W.grownBy W' row → row ≠ some g → Rdr W' g st
  number : ∀ (A : Option Addr) (n c : Nat) (l : List UInt8) (x : Nat) (w : World), LaidP S w → l.length = n → n ≤ 100000 → RdB w.heap.size w A l → n ≤ c → x < 18446744073709551616 →
    Calls Tryd.prog 10 #[.slice A n c, .int .u64 x] w fun e w' => PutR w (l ++ numB x) e w'
  int : ∀ (A : Option Addr) (n c : Nat) (l : List UInt8) (x : Int) (w : World), LaidP S w → l.length = n → n ≤ 100000 → RdB w.heap.size w A l → n ≤ c → -9223372036854775808 ≤ x → x ≤ 9223372036854775807 →
    Calls Tryd.prog 12 #[.slice A n c, .int .i64 x] w fun e w' => PutR w (l ++ numB (zig x)) e w'
  text : ∀ (A : Option Addr) (n c : Nat) (l : List UInt8) (s : ByteArray) (w : World), LaidP S w → l.length = n → n ≤ 100000 → RdB w.heap.size w A l → n ≤ c → s.size ≤ 100000 →
    Calls Tryd.prog 14 #[.slice A n c, .string s] w fun e w' => PutR w (l ++ textB s.data.toList) e w'
  flag : ∀ (A : Option Addr) (n c : Nat) (l : List UInt8) (f : Bool) (w : World), LaidP S w → l.length = n → n ≤ 200000 → RdB w.heap.size w A l → n ≤ c →
    Calls Tryd.prog 16 #[.slice A n c, .bool f] w fun e w' => PutR w (l ++ flagB f) e w'
  open_ : ∀ (A : Option Addr) (n c : Nat) (l : List UInt8) (w : World), LaidP S w → l.length = n → n ≤ 1000000 → RdB w.heap.size w A l →
    Calls Tryd.prog 21 #[.slice A n c] w fun e w' => (∃ g : Nat, e = .returned (.pointer (some ⟨g, 0, none⟩)) ∧ Rdr w' g (some l) ∧ w.heap.size ≤ g) ∧ Below w.heap.size w w'
  rNumber : ∀ (g : Nat) (st : Rest) (most : Nat) (w : World), LaidP S w → Rdr w g st → most < 18446744073709551616 →
    Calls Tryd.prog 35 #[.pointer (some ⟨g, 0, none⟩), .int .u64 most] w fun e w' => e = .returned (.int .u64 ((numOf st most).1 : Nat)) ∧ Rdr w' g (numOf st most).2 ∧ w.grownBy w' (some g)
  rInt : ∀ (g : Nat) (st : Rest) (w : World), LaidP S w → Rdr w g st →
    Calls Tryd.prog 36 #[.pointer (some ⟨g, 0, none⟩)] w fun e w' => e = .returned (.int .i64 (intOfR st).1) ∧ Rdr w' g (intOfR st).2 ∧ w.grownBy w' (some g)
  rText : ∀ (g : Nat) (st : Rest) (most : Nat) (w : World), LaidP S w → Rdr w g st → most ≤ 1000000 →
    Calls Tryd.prog 37 #[.pointer (some ⟨g, 0, none⟩), .int .i64 most] w fun e w' => (∃ s : ByteArray, e = .returned (.string s) ∧ s.data.toList = (textOf st most).1) ∧ Rdr w' g (textOf st most).2 ∧ w.grownBy w' (some g)
  rFlag : ∀ (g : Nat) (st : Rest) (w : World), LaidP S w → Rdr w g st →
    Calls Tryd.prog 38 #[.pointer (some ⟨g, 0, none⟩)] w fun e w' => e = .returned (.bool (flagOf st).1) ∧ Rdr w' g (flagOf st).2 ∧ w.grownBy w' (some g)
  rEnd : ∀ (g : Nat) (st : Rest) (w : World), LaidP S w → Rdr w g st →
    Calls Tryd.prog 25 #[.pointer (some ⟨g, 0, none⟩)] w fun e w' => e = .returned (.int .i64 (endOf st)) ∧ Rdr w' g st ∧ w.grownBy w' (some g)
  rValue0 : ∀ (g : Nat) (w : World), LaidP S w → Rdr w g none →
    Calls Tryd.prog 39 #[.pointer (some ⟨g, 0, none⟩)] w fun e w' => e = .returned (.agg #[.int .i64 0, .int .i64 0, .string ⟨#[]⟩]) ∧ Rdr w' g none ∧ w.grownBy w' (some g)
  rWrite0 : ∀ (g : Nat) (w : World), LaidP S w → Rdr w g none →
    Calls Tryd.prog 24 #[.pointer (some ⟨g, 0, none⟩)] w fun e w' => e = .returned wr0 ∧ Rdr w' g none ∧ w.grownBy w' (some g)
  rWrites0 : ∀ (g most : Nat) (w : World), LaidP S w → Rdr w g none → most ≤ 1000 →
    Calls Tryd.prog 26 #[.pointer (some ⟨g, 0, none⟩), .int .i64 most] w fun e w' => e = .returned (.slice none 0 0) ∧ Rdr w' g none ∧ w.grownBy w' (some g)

theorem below_g {w0 w w' : World} {g : Nat} (h : Below w0.heap.size w0 w) (hg : w.grownBy w' (some g)) (hle : w0.heap.size ≤ g) : Below w0.heap.size w0 w' :=
  h.grown hg h.size fun k hk => by
    injection hk with hk
    omega
end Go.Proofs.YtahmjiomkaibgaaDoor
