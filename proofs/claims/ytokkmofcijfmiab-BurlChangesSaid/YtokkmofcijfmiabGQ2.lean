/-
  WHAT IS PROVED: plain facts on a number's bytes: how many they are, out of its bits; each of them, out of a shift. No program is spoken of. · a row of one byte; a byte of a number, out of a shift. Over any program that bears the types named. · the document's bytes of numbers, ints, texts and flags (spinneyref05), for all. Conditions: those typed in each theorem. · the document's bytes of good values (spinneyref05.Value). Conditions: those typed in the theorem.
-/
import Derived.Test.YtokkmofcijfmiabPackMath
import Derived.Lib.BitFns
import Derived.Test.YtokkmofcijfmiabBytes
import Derived.IntWalk
import Derived.Lib.AppendStr
import Derived.Test.YtokkmofcijfmiabGQ1
namespace Go.Proofs.Ytokkmofcijfmiab

theorem beB_byte {n : Nat} (h0 : n ≠ 0) (h : n < 256) : beB n = [UInt8.ofNat n] := by
  rw [beB_pos h0, show n / 256 = 0 by omega, beB_zero, Nat.mod_eq_of_lt h]
  rfl
/-- How many bytes a number has, out of how many bits. -/
theorem bits_bytes : ∀ (n : Nat), n < 18446744073709551616 → (Lib.bitLen n + 7) / 8 = (beB n).length := by
  intro n
  induction n using Nat.strongRecOn with
  | _ n ih =>
    intro h
    by_cases h0 : n = 0
    · subst h0
      rw [beB_zero]
      rfl
    · by_cases h1 : n < 256
      · rw [beB_byte h0 h1]
        have h8 : Lib.bitLen n ≤ 8 := Lib.bitLen_le8 ⟨n, h1⟩
        have hp : Lib.bitLen n = 1 + Lib.bitLen (n / 2) := Lib.bitLen_half n h0 h
        show _ = 1
        omega
      · rw [beB_pos h0, List.length_append, ← ih (n / 256) (by omega) (by omega), Lib.bitLen_shift8 n (by omega) h]
        show _ = _ + 1
        omega
/-- Each byte. -/
theorem beB_get : ∀ (n j : Nat), j < (beB n).length → (beB n)[j]? = some (UInt8.ofNat (n / 256 ^ ((beB n).length - 1 - j) % 256)) := by
  intro n
  induction n using Nat.strongRecOn with
  | _ n ih =>
    intro j hj
    by_cases h0 : n = 0
    · subst h0
      rw [beB_zero] at hj
      simp at hj
    · have hp := beB_pos h0
      have hl : (beB n).length = (beB (n / 256)).length + 1 := by rw [hp, List.length_append]; rfl
      rw [hl]
      rw [hl] at hj
      rw [hp]
      by_cases h1 : j < (beB (n / 256)).length
      · rw [List.getElem?_append_left h1, ih (n / 256) (by omega) j h1]
        have e : (beB (n / 256)).length + 1 - 1 - j = ((beB (n / 256)).length - 1 - j) + 1 := by omega
        rw [e, Nat.pow_succ, Nat.mul_comm, ← Nat.div_div_eq_div_mul]
      · have e : j = (beB (n / 256)).length := by omega
        subst e
        rw [List.getElem?_append_right (Nat.le_refl _), Nat.sub_self]
        have e2 : (beB (n / 256)).length + 1 - 1 - (beB (n / 256)).length = 0 := by omega
        rw [e2, Nat.pow_zero, Nat.div_one]
        rfl
theorem pow_shift (k : Nat) : 2 ^ (8 * k) = 256 ^ k := by rw [Nat.pow_mul]
end Go.Proofs.Ytokkmofcijfmiab

namespace Go.Proofs.Ytokkmofcijfmiab
open Go.RowKit

/-- One byte in a row of its own. -/
theorem litB (w : World) {base : Nat} (z : Int) (c : UInt8) (h : z = (c.toNat : Int)) (hb : base ≤ w.heap.size) : OwnB base (w.alloc (.cells #[.int .u8 z] 5)) (some ⟨w.heap.size, 0, none⟩) 1 1 [c] := by
  subst h
  exact OwnB.lit w #[.int .u8 (c.toNat : Int)] [c] rfl rfl hb (by unfold maxLen; omega)
theorem shift_byte (x i : Nat) : (x : Int) / 2 ^ (8 * i) % 256 = ((UInt8.ofNat (x / 256 ^ i % 256)).toNat : Int) := by
  rw [toNat_mod, ← pow_shift, Int.natCast_emod, Int.natCast_ediv, Int.natCast_pow]
  rfl

end Go.Proofs.Ytokkmofcijfmiab

namespace Go.Proofs.Ytokkmofcijfmiab
open Go.RowKit

/-- A row of bytes that a call answered. -/
def PutP (w : World) (l : List UInt8) (e : Ending) (w' : World) : Prop :=
  (∃ (A : Option Addr) (n c : Nat), e = .returned (.slice A n c) ∧ OwnB w.heap.size w' A n c l) ∧ Below w.heap.size w w'

theorem mod_byte (v : Nat) : (v : Int) % 256 = ((UInt8.ofNat (v % 256)).toNat : Int) := by
  rw [toNat_mod]
  omega

theorem wrap_quo {v n : Nat} (hv : v ≤ n) (hn : n < 18446744073709551616) : IntKind.u64.wrap ((v : Int) / 256) = ((v / 256 : Nat) : Int) := by
  rw [IntKind.wrap_u64]
  omega

set_option maxRecDepth 100000 in
set_option maxHeartbeats 1000000 in
theorem refNumber_any (n : Nat) (w : World) (hn : n < 18446744073709551616) :
    Calls Try.prog 82 #[.int .u64 n] w fun e w' => PutP w (numB n) e w' := by
  obtain ⟨i0, hi0, hz0, hz1, hz2⟩ := info_parts byt_info
  have h8 := beB_eight hn
  have H8 := Lib.hid h8
  have HN := Lib.hid hn
  clear h8 hn
  go_enter Try.func82, Try.ntmps82
  go_wp2_with fail
  go_loopw [0, 3] (fun t u wr => ∃ (v : Nat) (A : Option Addr) (k c : Nat) (l : List UInt8), t = .int .u64 v ∧ u = .slice A k c ∧ v ≤ n ∧ OwnB w.heap.size wr A k c l ∧ Hid (beB n = beB v ++ l) ∧ Below w.heap.size w wr) (fun t _ _ => (intOf t).toNat)
  case atStart => exact ⟨n, none, 0, 0, [], rfl, rfl, Nat.le_refl _, OwnB.nil _ _, by simp [Hid], Below.refl _ _⟩
  case round =>
    obtain ⟨v, A, k, c, l, rfl, rfl, hv, hO, hL, hB⟩ := hrel
    have hk := hO.len
    have hk8 : k ≤ 8 := by
      have h1 := congrArg List.length hL.out
      rw [List.length_append, hk] at h1
      have := H8.out
      omega
    have HK := Lib.hid hk
    clear hk
    by_cases h0 : v = 0
    · have g0 : decide (0 < v) = false := by simp; omega
      have HL : Hid (numB n = UInt8.ofNat k :: l) := by
        have h1 := hL.out
        rw [h0, beB_zero, List.nil_append] at h1
        show _ = _
        unfold numB
        rw [h1, HK.out]
      have hz : (k : Int) = ((UInt8.ofNat k).toNat : Int) := by rw [UInt8.toNat_ofNat']; omega
      have hown := litB wr (base := w.heap.size) (k : Int) (UInt8.ofNat k) hz hB.size
      have hrd := hO.rd.keep (b0 wr (.cells #[.int .u8 (k : Int)] 5)) (Nat.le_refl _)
      have hB2 := hB.alloc hB.size (.cells #[.int .u8 (k : Int)] 5)
      have q1 : (k : Int) ≤ 8 := by omega
      have q2 : (0 : Int) ≤ (k : Int) := by omega
      have HZ := Lib.hid hz
      clear h0 hz
      go_wp2_with (at_builtin; refine wpList_apB (base := w.heap.size) (n := 1) (m := k) (l := [UInt8.ofNat k]) (l2 := l) (by rfl) _ _ (by rfl) Try.underlying58 Try.underlying58 hi0 hz0 hz1 hz2 (by rfl) (by rfl) hown hrd HK.out (1 + k) rfl (by omega) hB2.size ?_; intro A5 c5 w5 hO5 hb5 hg5)
      go_ret
      exact ⟨⟨A5, 1 + k, c5, rfl, by rw [HL.out]; exact hO5⟩, hB2.trans hb5⟩
    · have g0 : (0 : Int) < (v : Int) := by omega
      have HL : Hid (beB n = beB (v / 256) ++ ([UInt8.ofNat (v % 256)] ++ l)) := by
        show _ = _
        rw [hL.out, beB_pos h0, List.append_assoc]
      have HQ := Lib.hid (wrap_quo hv HN.out)
      have hown := litB wr (base := w.heap.size) ((v : Int) % 256) (UInt8.ofNat (v % 256)) (mod_byte v) hB.size
      have hrd := hO.rd.keep (b0 wr (.cells #[.int .u8 ((v : Int) % 256)] 5)) (Nat.le_refl _)
      have hB2 := hB.alloc hB.size (.cells #[.int .u8 ((v : Int) % 256)] 5)
      go_wp2_with (at_builtin; refine wpList_apB (base := w.heap.size) (n := 1) (m := k) (l := [UInt8.ofNat (v % 256)]) (l2 := l) (by rfl) _ _ (by rfl) Try.underlying58 Try.underlying58 hi0 hz0 hz1 hz2 (by rfl) (by rfl) hown hrd HK.out (1 + k) rfl (by omega) hB2.size ?_; intro A5 c5 w5 hO5 hb5 hg5)
      go_roundw
      case rel => exact ⟨v / 256, A5, 1 + k, c5, [UInt8.ofNat (v % 256)] ++ l, by rw [HQ.out], rfl, by omega, hO5, HL, hB2.trans hb5⟩
      case measure => simp only [intOf, HQ.out]; omega

theorem zig_neg {n : Int} (h : n < 0) (h0 : -9223372036854775808 ≤ n) : IntKind.u64.wrap (IntKind.u64.wrap (2 * IntKind.u64.wrap (-IntKind.u64.wrap n)) - 1) = ((zig n : Nat) : Int) := by
  unfold zig
  rw [if_pos h]
  simp only [IntKind.wrap_u64]
  omega
theorem zig_pos {n : Int} (h : ¬ n < 0) (h1 : n ≤ 9223372036854775807) : IntKind.u64.wrap (2 * IntKind.u64.wrap n) = ((zig n : Nat) : Int) := by
  unfold zig
  rw [if_neg h]
  simp only [IntKind.wrap_u64]
  omega

set_option maxRecDepth 100000 in
set_option maxHeartbeats 1000000 in
theorem refPInt_any (n : Int) (w : World) (h0 : -9223372036854775808 ≤ n) (h1 : n ≤ 9223372036854775807) :
    Calls Try.prog 83 #[.int .i64 n] w fun e w' => PutP w (numB (zig n)) e w' := by
  have HZ := Lib.hid (zig_lt h0 h1)
  by_cases hn : n < 0
  · have HE := Lib.hid (zig_neg hn h0)
    clear h0 h1
    go_enter Try.func83, Try.ntmps83
    go_wp2_with fail
    rw [HE.out]
    refine (refNumber_any _ w HZ.out).mono ?_
    rintro e w1 ⟨⟨A, m, c, rfl, hO⟩, hb⟩
    go_wp2_with fail
    go_ret
    exact ⟨⟨A, m, c, rfl, hO⟩, hb⟩
  · have HE := Lib.hid (zig_pos hn h1)
    clear h0 h1
    go_enter Try.func83, Try.ntmps83
    go_wp2_with fail
    rw [HE.out]
    refine (refNumber_any _ w HZ.out).mono ?_
    rintro e w1 ⟨⟨A, m, c, rfl, hO⟩, hb⟩
    go_wp2_with fail
    go_ret
    exact ⟨⟨A, m, c, rfl, hO⟩, hb⟩

theorem strCells_is (s : ByteArray) : Lib.strCells s = bytV s.data.toList := rfl
section
variable {P : Program} {w : World} {t u : TypeId} {i : TypeInfo} {base : Nat} {A : Option Addr} {n c : Nat} {l : List UInt8} {o : Oper} {a : Act} {Q : Exit → Act → World → Prop} {ops : Array Oper}
theorem run_apT {ty : TypeId} (ht : P.underlying t = some (.slice 5)) (hu : P.underlying u = some .string) (hi : P.info? 5 = some i) (hz : i.zero = some (.int .u8 0)) (hs : i.size = 1) (hy : i.bytes = 1)
    (hown : OwnB base w A n c l) (s : ByteArray) (hsz : n + s.size ≤ 1099511627776) (hbase : base ≤ w.heap.size) :
    ∃ A' c' w', (Builtin.append_ #[t, u] ty #[.slice A n c, .string s]).run P w = .ok (.slice A' (n + s.size) c') w' ∧ OwnB base w' A' (n + s.size) c' (l ++ s.data.toList) ∧ Below base w w' ∧ w.grownBy w' (A.map (·.block)) := by
  obtain ⟨v', w', hrun, h2, h3, _⟩ := Lib.run_append_own_string (P := P) w base t u ty 5 i ht hu hi hz hs hy (.slice A n c) n (bytV l) hown s (by unfold maxLen; omega) (by omega) hbase
  have hb : Below base w w' := (Below.refl base w).grown h3 hbase (fun k hk => (World.ownsRow.lt hown k hk).1)
  have hv : ∃ A' c', v' = .slice A' (n + s.size) c' := by
    rcases h2.2 with ⟨e1, e2⟩ | ⟨g, cap, cur, e1, _⟩
    · exact ⟨none, 0, by rw [e1, e2]⟩
    · exact ⟨_, _, e1⟩
  obtain ⟨A', c', rfl⟩ := hv
  refine ⟨A', c', w', hrun, ?_, hb, by cases A <;> exact h3⟩
  unfold OwnB
  rw [show bytV (l ++ s.data.toList) = bytV l ++ bytV s.data.toList from List.map_append]
  exact h2
theorem wp_apT {K : Act → World → Prop} (sl x : Operand) (ho : o.op = .call { callee := .builtin .append, args := #[sl, x], argTypes := #[t, u] })
    (ht : P.underlying t = some (.slice 5)) (hu : P.underlying u = some .string) (hi : P.info? 5 = some i) (hz : i.zero = some (.int .u8 0)) (hs : i.size = 1) (hy : i.bytes = 1) (s : ByteArray)
    (h1 : a.eval sl = .slice A n c) (h2 : a.eval x = .string s) (hown : OwnB base w A n c l) (N : Nat) (hN : n + s.size = N) (hsz : n + s.size ≤ 1099511627776) (hbase : base ≤ w.heap.size)
    (h : ∀ A' c' w', OwnB base w' A' N c' (l ++ s.data.toList) → Below base w w' → w.grownBy w' (A.map (·.block)) → K (a.put o.dst (.slice A' N c')) w') : o.wp P a w K Q := by
  subst hN
  obtain ⟨A', c', w', hrun, k1, k2, k3⟩ := run_apT (P := P) (ty := o.type) (w := w) ht hu hi hz hs hy hown s hsz hbase
  unfold Oper.wp execOp
  simp only [ho, resolve, invoke, builtin, Sem.run_bind, Sem.run_pure, Result.andThen_ok, List.map_toArray, List.map_cons, List.map_nil, h1, h2, hrun]
  exact h A' c' w' k1 k2 k3
theorem wpList_apT {rest : List Oper} (hgd : o.guard = none) (sl x : Operand) (ho : o.op = .call { callee := .builtin .append, args := #[sl, x], argTypes := #[t, u] })
    (ht : P.underlying t = some (.slice 5)) (hu : P.underlying u = some .string) (hi : P.info? 5 = some i) (hz : i.zero = some (.int .u8 0)) (hs : i.size = 1) (hy : i.bytes = 1) (s : ByteArray)
    (h1 : a.eval sl = .slice A n c) (h2 : a.eval x = .string s) (hown : OwnB base w A n c l) (N : Nat) (hN : n + s.size = N) (hsz : n + s.size ≤ 1099511627776) (hbase : base ≤ w.heap.size)
    (h : ∀ A' c' w', OwnB base w' A' N c' (l ++ s.data.toList) → Below base w w' → w.grownBy w' (A.map (·.block)) → wpList P ops Q rest (a.put o.dst (.slice A' N c')) w') : wpList P ops Q (o :: rest) a w :=
  wpList_plain hgd fun _ hK => wp_apT sl x ho ht hu hi hz hs hy s h1 h2 hown N hN hsz hbase fun A' c' w' k1 k2 k3 => hK _ _ (h A' c' w' k1 k2 k3)
end

theorem numB_small {n : Nat} (h : n < 18446744073709551616) : (numB n).length ≤ 9 := by
  have := beB_eight h
  rw [numB_len]
  omega
theorem wrap_size {n : Nat} (h : n ≤ 1099511627776) : IntKind.u64.wrap (n : Int) = (n : Int) := by
  rw [IntKind.wrap_u64]
  omega

set_option maxRecDepth 100000 in
set_option maxHeartbeats 1000000 in
theorem refPText_any (s : ByteArray) (w : World) (hs : s.size ≤ 1000000) :
    Calls Try.prog 69 #[.string s] w fun e w' => PutP w (textB s.data.toList) e w' := by
  obtain ⟨i0, hi0, hz0, hz1, hz2⟩ := info_parts byt_info
  have hl : s.data.toList.length = s.size := Array.length_toList
  have HL := Lib.hid hl
  clear hl
  have s0 : (0 : Int) ≤ (s.size : Int) := by omega
  have s1 : (s.size : Int) ≤ 1000000 := by omega
  go_enter Try.func69, Try.ntmps69
  go_wp2_with fail
  refine (refNumber_any s.size w (by omega)).mono ?_
  rintro e w1 ⟨⟨A, m, c, rfl, hO⟩, hb⟩
  have hm := numB_small (n := s.size) (by omega)
  have hk := hO.len
  have hm2 : m ≤ 9 := by omega
  clear hm hk
  go_wp2_with (at_builtin; refine wpList_apT (base := w.heap.size) (n := m) (l := numB s.size) (by rfl) _ _ (by rfl) Try.underlying58 Try.underlying9 hi0 hz0 hz1 hz2 s (by rfl) (by rfl) hO (m + s.size) rfl (by omega) hb.size ?_; intro A5 c5 w5 hO5 hb5 hg5)
  go_ret
  refine ⟨⟨A5, m + s.size, c5, rfl, ?_⟩, hb.trans hb5⟩
  unfold textB
  rw [HL.out]
  exact hO5
end Go.Proofs.Ytokkmofcijfmiab

namespace Go.Proofs.Ytokkmofcijfmiab
open Go.RowKit

/-- A value's bytes. -/
def valB (k n : Int) (s : List UInt8) : List UInt8 := numB k.toNat ++ (if k = 1 then numB (zig n) else if k = 2 then textB s else [])

theorem textB_small {s : ByteArray} (h : s.size ≤ 1000000) : (textB s.data.toList).length ≤ 1000009 := by
  have hl : s.data.toList.length = s.size := Array.length_toList
  have := numB_small (n := s.size) (by omega)
  unfold textB
  rw [List.length_append, hl]
  omega
theorem valB_0 (n : Int) (s : List UInt8) : valB 0 n s = numB 0 := by simp [valB]
theorem valB_1 (n : Int) (s : List UInt8) : valB 1 n s = numB 1 ++ numB (zig n) := by simp [valB]
theorem valB_2 (n : Int) (s : List UInt8) : valB 2 n s = numB 2 ++ textB s := by simp [valB]

set_option maxRecDepth 100000 in
set_option maxHeartbeats 1000000 in
theorem refPValue_any (k n : Int) (s : ByteArray) (w : World) (hk : k = 0 ∨ k = 1 ∨ k = 2) (h0 : -9223372036854775808 ≤ n) (h1 : n ≤ 9223372036854775807) (hs : s.size ≤ 1000000) :
    Calls Try.prog 70 #[.agg #[.int .i64 k, .int .i64 n, .string s]] w fun e w' => PutP w (valB k n s.data.toList) e w' := by
  obtain ⟨i0, hi0, hz0, hz1, hz2⟩ := info_parts byt_info
  have H0 := Lib.hid h0
  have H1 := Lib.hid h1
  clear h0 h1
  rcases hk with rfl | rfl | rfl
  all_goals
    go_enter Try.func70, Try.ntmps70
    go_wp2_with fail
  · have hC := blk_new w #[.int .i64 0, .int .i64 n, .string s] 31
    have hB := b0 w (.cells #[.int .i64 0, .int .i64 n, .string s] 31)
    generalize w.alloc (.cells #[.int .i64 0, .int .i64 n, .string s] 31) = W at hC hB ⊢
    refine (refNumber_any 0 W (by omega)).mono ?_
    rintro e w1 ⟨⟨A, m, c, rfl, hO⟩, hb⟩
    obtain ⟨c0, c1, c2, c3⟩ := (hC.keep hb).c3
    go_wp2_with fail
    go_ret
    exact ⟨⟨A, m, c, rfl, by rw [valB_0]; exact hO.less hB.size⟩, bt hB hb⟩
  · have hC := blk_new w #[.int .i64 1, .int .i64 n, .string s] 31
    have hB := b0 w (.cells #[.int .i64 1, .int .i64 n, .string s] 31)
    generalize w.alloc (.cells #[.int .i64 1, .int .i64 n, .string s] 31) = W at hC hB ⊢
    refine (refNumber_any 1 W (by omega)).mono ?_
    rintro e w1 ⟨⟨A, m, c, rfl, hO⟩, hb⟩
    have hC1 := hC.keep hb
    obtain ⟨c0, c1, c2, c3⟩ := hC1.c3
    have hk1 := hO.len
    have hm1 : m ≤ 9 := by have := numB_small (n := 1) (by omega); omega
    clear hk1
    go_wp2_with fail
    refine (refPInt_any n w1 H0.out H1.out).mono ?_
    rintro e w2 ⟨⟨A2, m2, d, rfl, hO2⟩, hb2⟩
    have hC2 := hC1.keep hb2
    obtain ⟨d0, d1, d2, d3⟩ := hC2.c3
    have hk2 := hO2.len
    have HK2 := Lib.hid hk2
    have hm2 : m2 ≤ 9 := by have := numB_small (zig_lt H0.out H1.out); omega
    clear hk2 c0 c1 c2 c3
    have hO1 := hO.keep hb2
    have hBB := bt hb hb2
    go_wp2_with (at_builtin; refine wpList_apB (base := W.heap.size) (n := m) (m := m2) (l := numB 1) (l2 := numB (zig n)) (by rfl) _ _ (by rfl) Try.underlying58 Try.underlying58 hi0 hz0 hz1 hz2 (by rfl) (by rfl) hO1 hO2.rd HK2.out (m + m2) rfl (by omega) hBB.size ?_; intro A5 c5 w5 hO5 hb5 hg5; obtain ⟨q0, q1, q2, q3⟩ := (hC.keep (hBB.trans hb5)).c3)
    go_ret
    exact ⟨⟨A5, m + m2, c5, rfl, by rw [valB_1]; exact hO5.less hB.size⟩, bt hB (hBB.trans hb5)⟩
  · have hC := blk_new w #[.int .i64 2, .int .i64 n, .string s] 31
    have hB := b0 w (.cells #[.int .i64 2, .int .i64 n, .string s] 31)
    generalize w.alloc (.cells #[.int .i64 2, .int .i64 n, .string s] 31) = W at hC hB ⊢
    refine (refNumber_any 2 W (by omega)).mono ?_
    rintro e w1 ⟨⟨A, m, c, rfl, hO⟩, hb⟩
    have hC1 := hC.keep hb
    obtain ⟨c0, c1, c2, c3⟩ := hC1.c3
    have hk1 := hO.len
    have hm1 : m ≤ 9 := by have := numB_small (n := 2) (by omega); omega
    clear hk1
    go_wp2_with fail
    refine (refPText_any s w1 hs).mono ?_
    rintro e w2 ⟨⟨A2, m2, d, rfl, hO2⟩, hb2⟩
    have hC2 := hC1.keep hb2
    obtain ⟨d0, d1, d2, d3⟩ := hC2.c3
    have hk2 := hO2.len
    have HK2 := Lib.hid hk2
    have hm2 : m2 ≤ 1000009 := by have := textB_small hs; omega
    clear hk2 c0 c1 c2 c3
    have hO1 := hO.keep hb2
    have hBB := bt hb hb2
    go_wp2_with (at_builtin; refine wpList_apB (base := W.heap.size) (n := m) (m := m2) (l := numB 2) (l2 := textB s.data.toList) (by rfl) _ _ (by rfl) Try.underlying58 Try.underlying58 hi0 hz0 hz1 hz2 (by rfl) (by rfl) hO1 hO2.rd HK2.out (m + m2) rfl (by omega) hBB.size ?_; intro A5 c5 w5 hO5 hb5 hg5; obtain ⟨q0, q1, q2, q3⟩ := (hC.keep (hBB.trans hb5)).c3)
    go_ret
    exact ⟨⟨A5, m + m2, c5, rfl, by rw [valB_2]; exact hO5.less hB.size⟩, bt hB (hBB.trans hb5)⟩
end Go.Proofs.Ytokkmofcijfmiab
