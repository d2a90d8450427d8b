/-
  WHAT IS PROVED: a row of one byte; a byte of a number, out of a shift. Over any program that bears the types named. · the document's bytes of numbers, ints, texts and flags (spinneyref05), for all. Conditions: those typed in each theorem. · small lemmas by which a block of cells stays known in a world that only grows (own work, over any program). · the document's bytes of good values (spinneyref05.Value). Conditions: those typed in the theorem. · the document's bytes of good writes (spinneyref05.Write). Conditions: those typed in the theorem. · string(..) of bytes that are read (own work); over any program that bears the types named. · plain facts, and, as definitions, what the walks of layer 5's statements take of package pack's calls (a reader is any predicate of worlds that its calls carry). The definitions are proved elsewhere, of the code itself. The chapter's examples hold, if the calls answer so. · plain facts: the steps by which package pack's reader takes a number, a text, a flag come to what the chapter says is taken. No program is spoken of. · package pack's reader, its own small calls (Open, fail, must, take, next, sound): what they answer and leave of what the reader still has. Conditions: those typed in each theorem.
-/
import Derived.Test.YtpjleeeligahaaaGreatDoorGQ0
import Derived.IntWalk
import Derived.Lib.AppendStr
import Derived.Deep.RegionHeld3
import Derived.Deep.DrawnRows
import Derived.WalkKit
import Derived.LaidEql
namespace Go.Proofs.YtpjleeeligahaaaGreatDoor
open Go.RowKit

/-- One byte in a row of its own. -/
theorem litB (w : World) {base : Nat} (z : Int) (c : UInt8) (h : z = (c.toNat : Int)) (hb : base ≤ w.heap.size) : OwnB base (w.alloc (.cells #[.int .u8 z] 5)) (some ⟨w.heap.size, 0, none⟩) 1 1 [c] := by
  subst h
  exact OwnB.lit w #[.int .u8 (c.toNat : Int)] [c] rfl rfl hb (by unfold maxLen; omega)
theorem shift_byte (x i : Nat) : (x : Int) / 2 ^ (8 * i) % 256 = ((UInt8.ofNat (x / 256 ^ i % 256)).toNat : Int) := by
  rw [toNat_mod, ← pow_shift, Int.natCast_emod, Int.natCast_ediv, Int.natCast_pow]
  rfl

end Go.Proofs.YtpjleeeligahaaaGreatDoor

namespace Go.Proofs.YtpjleeeligahaaaGreatDoor
open Go.RowKit

/-- A row of bytes that a call answered. -/
def PutP (w : World) (l : List UInt8) (e : Ending) (w' : World) : Prop :=
  (∃ (A : Option Addr) (n c : Nat), e = .returned (.slice A n c) ∧ OwnB w.heap.size w' A n c l) ∧ Below w.heap.size w w'

theorem mod_byte (v : Nat) : (v : Int) % 256 = ((UInt8.ofNat (v % 256)).toNat : Int) := by
  rw [toNat_mod]
  omega

theorem wrap_quo {v n : Nat} (hv : v ≤ n) (hn : n < 18446744073709551616) : IntKind.u64.wrap ((v : Int) / 256) = ((v / 256 : Nat) : Int) := by
  rw [IntKind.wrap_u64]
  omega

set_option maxRecDepth 100000 in
set_option maxHeartbeats 1000000 in
theorem refNumber_any (n : Nat) (w : World) (hn : n < 18446744073709551616) :
    Calls Tryz.prog 36 #[.int .u64 n] w fun e w' => PutP w (numB n) e w' := by
  obtain ⟨i0, hi0, hz0, hz1, hz2⟩ := info_parts byt_info
  have h8 := beB_eight hn
  have H8 := Lib.hid h8
  have HN := Lib.hid hn
  clear h8 hn
  go_enter Tryz.func36, Tryz.ntmps36
  go_wp2_with fail
  go_loopw [0, 3] (fun t u wr => ∃ (v : Nat) (A : Option Addr) (k c : Nat) (l : List UInt8), t = .int .u64 v ∧ u = .slice A k c ∧ v ≤ n ∧ OwnB w.heap.size wr A k c l ∧ Hid (beB n = beB v ++ l) ∧ Below w.heap.size w wr) (fun t _ _ => (intOf t).toNat)
  case atStart => exact ⟨n, none, 0, 0, [], rfl, rfl, Nat.le_refl _, OwnB.nil _ _, by simp [Hid], Below.refl _ _⟩
  case round =>
    obtain ⟨v, A, k, c, l, rfl, rfl, hv, hO, hL, hB⟩ := hrel
    have hk := hO.len
    have hk8 : k ≤ 8 := by
      have h1 := congrArg List.length hL.out
      rw [List.length_append, hk] at h1
      have := H8.out
      omega
    have HK := Lib.hid hk
    clear hk
    by_cases h0 : v = 0
    · have g0 : decide (0 < v) = false := by simp; omega
      have HL : Hid (numB n = UInt8.ofNat k :: l) := by
        have h1 := hL.out
        rw [h0, beB_zero, List.nil_append] at h1
        show _ = _
        unfold numB
        rw [h1, HK.out]
      have hz : (k : Int) = ((UInt8.ofNat k).toNat : Int) := by rw [UInt8.toNat_ofNat']; omega
      have hown := litB wr (base := w.heap.size) (k : Int) (UInt8.ofNat k) hz hB.size
      have hrd := hO.rd.keep (b0 wr (.cells #[.int .u8 (k : Int)] 5)) (Nat.le_refl _)
      have hB2 := hB.alloc hB.size (.cells #[.int .u8 (k : Int)] 5)
      have q1 : (k : Int) ≤ 8 := by omega
      have q2 : (0 : Int) ≤ (k : Int) := by omega
      have HZ := Lib.hid hz
      clear h0 hz
      go_wp2_with (at_builtin; refine wpList_apB (base := w.heap.size) (n := 1) (m := k) (l := [UInt8.ofNat k]) (l2 := l) (by rfl) _ _ (by rfl) Tryz.underlying23 Tryz.underlying23 hi0 hz0 hz1 hz2 (by rfl) (by rfl) hown hrd HK.out (1 + k) rfl (by omega) hB2.size ?_; intro A5 c5 w5 hO5 hb5 hg5)
      go_ret
      exact ⟨⟨A5, 1 + k, c5, rfl, by rw [HL.out]; exact hO5⟩, hB2.trans hb5⟩
    · have g0 : (0 : Int) < (v : Int) := by omega
      have HL : Hid (beB n = beB (v / 256) ++ ([UInt8.ofNat (v % 256)] ++ l)) := by
        show _ = _
        rw [hL.out, beB_pos h0, List.append_assoc]
      have HQ := Lib.hid (wrap_quo hv HN.out)
      have hown := litB wr (base := w.heap.size) ((v : Int) % 256) (UInt8.ofNat (v % 256)) (mod_byte v) hB.size
      have hrd := hO.rd.keep (b0 wr (.cells #[.int .u8 ((v : Int) % 256)] 5)) (Nat.le_refl _)
      have hB2 := hB.alloc hB.size (.cells #[.int .u8 ((v : Int) % 256)] 5)
      go_wp2_with (at_builtin; refine wpList_apB (base := w.heap.size) (n := 1) (m := k) (l := [UInt8.ofNat (v % 256)]) (l2 := l) (by rfl) _ _ (by rfl) Tryz.underlying23 Tryz.underlying23 hi0 hz0 hz1 hz2 (by rfl) (by rfl) hown hrd HK.out (1 + k) rfl (by omega) hB2.size ?_; intro A5 c5 w5 hO5 hb5 hg5)
      go_roundw
      case rel => exact ⟨v / 256, A5, 1 + k, c5, [UInt8.ofNat (v % 256)] ++ l, by rw [HQ.out], rfl, by omega, hO5, HL, hB2.trans hb5⟩
      case measure => simp only [intOf, HQ.out]; omega

theorem zig_neg {n : Int} (h : n < 0) (h0 : -9223372036854775808 ≤ n) : IntKind.u64.wrap (IntKind.u64.wrap (2 * IntKind.u64.wrap (-IntKind.u64.wrap n)) - 1) = ((zig n : Nat) : Int) := by
  unfold zig
  rw [if_pos h]
  simp only [IntKind.wrap_u64]
  omega
theorem zig_pos {n : Int} (h : ¬ n < 0) (h1 : n ≤ 9223372036854775807) : IntKind.u64.wrap (2 * IntKind.u64.wrap n) = ((zig n : Nat) : Int) := by
  unfold zig
  rw [if_neg h]
  simp only [IntKind.wrap_u64]
  omega

set_option maxRecDepth 100000 in
set_option maxHeartbeats 1000000 in
theorem refPInt_any (n : Int) (w : World) (h0 : -9223372036854775808 ≤ n) (h1 : n ≤ 9223372036854775807) :
    Calls Tryz.prog 121 #[.int .i64 n] w fun e w' => PutP w (numB (zig n)) e w' := by
  have HZ := Lib.hid (zig_lt h0 h1)
  by_cases hn : n < 0
  · have HE := Lib.hid (zig_neg hn h0)
    clear h0 h1
    go_enter Tryz.func121, Tryz.ntmps121
    go_wp2_with fail
    rw [HE.out]
    refine (refNumber_any _ w HZ.out).mono ?_
    rintro e w1 ⟨⟨A, m, c, rfl, hO⟩, hb⟩
    go_wp2_with fail
    go_ret
    exact ⟨⟨A, m, c, rfl, hO⟩, hb⟩
  · have HE := Lib.hid (zig_pos hn h1)
    clear h0 h1
    go_enter Tryz.func121, Tryz.ntmps121
    go_wp2_with fail
    rw [HE.out]
    refine (refNumber_any _ w HZ.out).mono ?_
    rintro e w1 ⟨⟨A, m, c, rfl, hO⟩, hb⟩
    go_wp2_with fail
    go_ret
    exact ⟨⟨A, m, c, rfl, hO⟩, hb⟩

theorem strCells_is (s : ByteArray) : Lib.strCells s = bytV s.data.toList := rfl
section
variable {P : Program} {w : World} {t u : TypeId} {i : TypeInfo} {base : Nat} {A : Option Addr} {n c : Nat} {l : List UInt8} {o : Oper} {a : Act} {Q : Exit → Act → World → Prop} {ops : Array Oper}
theorem run_apT {ty : TypeId} (ht : P.underlying t = some (.slice 5)) (hu : P.underlying u = some .string) (hi : P.info? 5 = some i) (hz : i.zero = some (.int .u8 0)) (hs : i.size = 1) (hy : i.bytes = 1)
    (hown : OwnB base w A n c l) (s : ByteArray) (hsz : n + s.size ≤ 1099511627776) (hbase : base ≤ w.heap.size) :
    ∃ A' c' w', (Builtin.append_ #[t, u] ty #[.slice A n c, .string s]).run P w = .ok (.slice A' (n + s.size) c') w' ∧ OwnB base w' A' (n + s.size) c' (l ++ s.data.toList) ∧ Below base w w' ∧ w.grownBy w' (A.map (·.block)) := by
  obtain ⟨v', w', hrun, h2, h3, _⟩ := Lib.run_append_own_string (P := P) w base t u ty 5 i ht hu hi hz hs hy (.slice A n c) n (bytV l) hown s (by unfold maxLen; omega) (by omega) hbase
  have hb : Below base w w' := (Below.refl base w).grown h3 hbase (fun k hk => (World.ownsRow.lt hown k hk).1)
  have hv : ∃ A' c', v' = .slice A' (n + s.size) c' := by
    rcases h2.2 with ⟨e1, e2⟩ | ⟨g, cap, cur, e1, _⟩
    · exact ⟨none, 0, by rw [e1, e2]⟩
    · exact ⟨_, _, e1⟩
  obtain ⟨A', c', rfl⟩ := hv
  refine ⟨A', c', w', hrun, ?_, hb, by cases A <;> exact h3⟩
  unfold OwnB
  rw [show bytV (l ++ s.data.toList) = bytV l ++ bytV s.data.toList from List.map_append]
  exact h2
theorem wp_apT {K : Act → World → Prop} (sl x : Operand) (ho : o.op = .call { callee := .builtin .append, args := #[sl, x], argTypes := #[t, u] })
    (ht : P.underlying t = some (.slice 5)) (hu : P.underlying u = some .string) (hi : P.info? 5 = some i) (hz : i.zero = some (.int .u8 0)) (hs : i.size = 1) (hy : i.bytes = 1) (s : ByteArray)
    (h1 : a.eval sl = .slice A n c) (h2 : a.eval x = .string s) (hown : OwnB base w A n c l) (N : Nat) (hN : n + s.size = N) (hsz : n + s.size ≤ 1099511627776) (hbase : base ≤ w.heap.size)
    (h : ∀ A' c' w', OwnB base w' A' N c' (l ++ s.data.toList) → Below base w w' → w.grownBy w' (A.map (·.block)) → K (a.put o.dst (.slice A' N c')) w') : o.wp P a w K Q := by
  subst hN
  obtain ⟨A', c', w', hrun, k1, k2, k3⟩ := run_apT (P := P) (ty := o.type) (w := w) ht hu hi hz hs hy hown s hsz hbase
  unfold Oper.wp execOp
  simp only [ho, resolve, invoke, builtin, Sem.run_bind, Sem.run_pure, Result.andThen_ok, List.map_toArray, List.map_cons, List.map_nil, h1, h2, hrun]
  exact h A' c' w' k1 k2 k3
theorem wpList_apT {rest : List Oper} (hgd : o.guard = none) (sl x : Operand) (ho : o.op = .call { callee := .builtin .append, args := #[sl, x], argTypes := #[t, u] })
    (ht : P.underlying t = some (.slice 5)) (hu : P.underlying u = some .string) (hi : P.info? 5 = some i) (hz : i.zero = some (.int .u8 0)) (hs : i.size = 1) (hy : i.bytes = 1) (s : ByteArray)
    (h1 : a.eval sl = .slice A n c) (h2 : a.eval x = .string s) (hown : OwnB base w A n c l) (N : Nat) (hN : n + s.size = N) (hsz : n + s.size ≤ 1099511627776) (hbase : base ≤ w.heap.size)
    (h : ∀ A' c' w', OwnB base w' A' N c' (l ++ s.data.toList) → Below base w w' → w.grownBy w' (A.map (·.block)) → wpList P ops Q rest (a.put o.dst (.slice A' N c')) w') : wpList P ops Q (o :: rest) a w :=
  wpList_plain hgd fun _ hK => wp_apT sl x ho ht hu hi hz hs hy s h1 h2 hown N hN hsz hbase fun A' c' w' k1 k2 k3 => hK _ _ (h A' c' w' k1 k2 k3)
end

theorem numB_small {n : Nat} (h : n < 18446744073709551616) : (numB n).length ≤ 9 := by
  have := beB_eight h
  rw [numB_len]
  omega
theorem wrap_size {n : Nat} (h : n ≤ 1099511627776) : IntKind.u64.wrap (n : Int) = (n : Int) := by
  rw [IntKind.wrap_u64]
  omega

set_option maxRecDepth 100000 in
set_option maxHeartbeats 1000000 in
theorem refPText_any (s : ByteArray) (w : World) (hs : s.size ≤ 1000000) :
    Calls Tryz.prog 78 #[.string s] w fun e w' => PutP w (textB s.data.toList) e w' := by
  obtain ⟨i0, hi0, hz0, hz1, hz2⟩ := info_parts byt_info
  have hl : s.data.toList.length = s.size := Array.length_toList
  have HL := Lib.hid hl
  clear hl
  have s0 : (0 : Int) ≤ (s.size : Int) := by omega
  have s1 : (s.size : Int) ≤ 1000000 := by omega
  go_enter Tryz.func78, Tryz.ntmps78
  go_wp2_with fail
  refine (refNumber_any s.size w (by omega)).mono ?_
  rintro e w1 ⟨⟨A, m, c, rfl, hO⟩, hb⟩
  have hm := numB_small (n := s.size) (by omega)
  have hk := hO.len
  have hm2 : m ≤ 9 := by omega
  clear hm hk
  go_wp2_with (at_builtin; refine wpList_apT (base := w.heap.size) (n := m) (l := numB s.size) (by rfl) _ _ (by rfl) Tryz.underlying23 Tryz.underlying9 hi0 hz0 hz1 hz2 s (by rfl) (by rfl) hO (m + s.size) rfl (by omega) hb.size ?_; intro A5 c5 w5 hO5 hb5 hg5)
  go_ret
  refine ⟨⟨A5, m + s.size, c5, rfl, ?_⟩, hb.trans hb5⟩
  unfold textB
  rw [HL.out]
  exact hO5
end Go.Proofs.YtpjleeeligahaaaGreatDoor

namespace Go.Proofs.YtpjleeeligahaaaGreatDoor
open Go.RowKit

/-- A block, whole. -/
def Blk (W : World) (b : Nat) (cs : Array Value) (t : TypeId) : Prop := W.heap[b]? = some (.cells cs t)
theorem Blk.lt {W : World} {b : Nat} {cs : Array Value} {t : TypeId} (h : Blk W b cs t) : b < W.heap.size := (Array.getElem?_eq_some_iff.1 h).1
theorem Blk.keep {W W1 : World} {b : Nat} {cs : Array Value} {t : TypeId} (h : Blk W b cs t) (hb : Below W.heap.size W W1) : Blk W1 b cs t := (hb.block b h.lt).trans h
theorem blk_new (w : World) (cs : Array Value) (t : TypeId) : Blk (w.alloc (.cells cs t)) w.heap.size cs t := by
  show (w.heap.push _)[w.heap.size]? = _
  simp
theorem blk_at {w : World} {b : Nat} (h : b = w.heap.size) (cs : Array Value) (t : TypeId) : Blk (w.alloc (.cells cs t)) b cs t := by
  subst h
  exact blk_new w cs t
theorem Blk.alloc {W : World} {b : Nat} {cs : Array Value} {t : TypeId} (h : Blk W b cs t) (o : Obj) : Blk (W.alloc o) b cs t := h.keep (b0 W o)
theorem Blk.drew {W : World} {b : Nat} {cs : Array Value} {t : TypeId} (h : Blk W b cs t) (n : Nat) : Blk (W.drewN n) b cs t := h
theorem Blk.cell {W : World} {b : Nat} {cs : Array Value} {t : TypeId} (h : Blk W b cs t) (i : Nat) : W.cell? ⟨b, i, none⟩ = cs[i]? := by
  unfold Blk at h
  simp [World.cell?, h]
theorem Blk.free {W : World} {b : Nat} {cs : Array Value} {t : TypeId} (h : Blk W b cs t) (i : Nat) : W.frozen? ⟨b, i, none⟩ = false := by
  unfold Blk at h
  simp [World.frozen?, h]
/-- A value's three cells. -/
theorem Blk.c3 {W : World} {b : Nat} {v0 v1 v2 : Value} {t : TypeId} (h : Blk W b #[v0, v1, v2] t) :
    W.cell? ⟨b, 0, none⟩ = some v0 ∧ W.cell? ⟨b, 1, none⟩ = some v1 ∧ W.cell? ⟨b, 2, none⟩ = some v2 ∧ b < W.heap.size :=
  ⟨h.cell 0, h.cell 1, h.cell 2, h.lt⟩
theorem Blk.f3 {W : World} {b : Nat} {v0 v1 v2 : Value} {t : TypeId} (h : Blk W b #[v0, v1, v2] t) :
    W.frozen? ⟨b, 0, none⟩ = false ∧ W.frozen? ⟨b, 1, none⟩ = false ∧ W.frozen? ⟨b, 2, none⟩ = false :=
  ⟨h.free 0, h.free 1, h.free 2⟩
/-- An operation's eight cells. -/
theorem Blk.c8 {W : World} {b : Nat} {v0 v1 v2 v3 v4 v5 v6 v7 : Value} {t : TypeId} (h : Blk W b #[v0, v1, v2, v3, v4, v5, v6, v7] t) :
    W.cell? ⟨b, 0, none⟩ = some v0 ∧ W.cell? ⟨b, 1, none⟩ = some v1 ∧ W.cell? ⟨b, 2, none⟩ = some v2 ∧ W.cell? ⟨b, 3, none⟩ = some v3 ∧ W.cell? ⟨b, 4, none⟩ = some v4 ∧ W.cell? ⟨b, 5, none⟩ = some v5 ∧ W.cell? ⟨b, 6, none⟩ = some v6 ∧ W.cell? ⟨b, 7, none⟩ = some v7 ∧ b < W.heap.size :=
  ⟨h.cell 0, h.cell 1, h.cell 2, h.cell 3, h.cell 4, h.cell 5, h.cell 6, h.cell 7, h.lt⟩
theorem Blk.f8 {W : World} {b : Nat} {v0 v1 v2 v3 v4 v5 v6 v7 : Value} {t : TypeId} (h : Blk W b #[v0, v1, v2, v3, v4, v5, v6, v7] t) :
    W.frozen? ⟨b, 0, none⟩ = false ∧ W.frozen? ⟨b, 1, none⟩ = false ∧ W.frozen? ⟨b, 2, none⟩ = false ∧ W.frozen? ⟨b, 3, none⟩ = false ∧ W.frozen? ⟨b, 4, none⟩ = false ∧ W.frozen? ⟨b, 5, none⟩ = false ∧ W.frozen? ⟨b, 6, none⟩ = false ∧ W.frozen? ⟨b, 7, none⟩ = false :=
  ⟨h.free 0, h.free 1, h.free 2, h.free 3, h.free 4, h.free 5, h.free 6, h.free 7⟩
theorem below8 {B b : Nat} {w W : World} (h : Below B w W) (hb : B ≤ b) (v0 v1 v2 v3 v4 v5 v6 v7 : Value) : Below B w ((((((((W.setCell ⟨b, 0, none⟩ v0).setCell ⟨b, 1, none⟩ v1).setCell ⟨b, 2, none⟩ v2).setCell ⟨b, 3, none⟩ v3).setCell ⟨b, 4, none⟩ v4).setCell ⟨b, 5, none⟩ v5).setCell ⟨b, 6, none⟩ v6).setCell ⟨b, 7, none⟩ v7) := ((((((((h.setCell (p := ⟨b, 0, none⟩) hb v0).setCell (p := ⟨b, 1, none⟩) hb v1).setCell (p := ⟨b, 2, none⟩) hb v2).setCell (p := ⟨b, 3, none⟩) hb v3).setCell (p := ⟨b, 4, none⟩) hb v4).setCell (p := ⟨b, 5, none⟩) hb v5).setCell (p := ⟨b, 6, none⟩) hb v6).setCell (p := ⟨b, 7, none⟩) hb v7)

/-- A store into a block. -/
theorem Blk.set {W : World} {b : Nat} {cs : Array Value} {t : TypeId} (h : Blk W b cs t) (i : Nat) (v : Value) : Blk (W.setCell ⟨b, i, none⟩ v) b (cs.setIfInBounds i v) t := by
  unfold Blk at h ⊢
  simp [World.setCell, Array.getElem?_modify, h]
/-- .. into another one. -/
theorem Blk.other {W : World} {b : Nat} {cs : Array Value} {t : TypeId} (h : Blk W b cs t) {c : Nat} (hne : b ≠ c) (i : Nat) (v : Value) : Blk (W.setCell ⟨c, i, none⟩ v) b cs t :=
  (Below.heap_setCell W ⟨c, i, none⟩ v b hne).trans h
theorem Blk.other8 {W : World} {b c : Nat} {cs : Array Value} {t : TypeId} (h : Blk W b cs t) (hne : b ≠ c) (v0 v1 v2 v3 v4 v5 v6 v7 : Value) : Blk ((((((((W.setCell ⟨c, 0, none⟩ v0).setCell ⟨c, 1, none⟩ v1).setCell ⟨c, 2, none⟩ v2).setCell ⟨c, 3, none⟩ v3).setCell ⟨c, 4, none⟩ v4).setCell ⟨c, 5, none⟩ v5).setCell ⟨c, 6, none⟩ v6).setCell ⟨c, 7, none⟩ v7) b cs t := ((((((((h.other hne 0 v0).other hne 1 v1).other hne 2 v2).other hne 3 v3).other hne 4 v4).other hne 5 v5).other hne 6 v6).other hne 7 v7)
/-- Six cells. -/
theorem Blk.c6 {W : World} {b : Nat} {v0 v1 v2 v3 v4 v5 : Value} {t : TypeId} (h : Blk W b #[v0, v1, v2, v3, v4, v5] t) :
    W.cell? ⟨b, 0, none⟩ = some v0 ∧ W.cell? ⟨b, 1, none⟩ = some v1 ∧ W.cell? ⟨b, 2, none⟩ = some v2 ∧ W.cell? ⟨b, 3, none⟩ = some v3 ∧ W.cell? ⟨b, 4, none⟩ = some v4 ∧ W.cell? ⟨b, 5, none⟩ = some v5 ∧ b < W.heap.size :=
  ⟨h.cell 0, h.cell 1, h.cell 2, h.cell 3, h.cell 4, h.cell 5, h.lt⟩
theorem Blk.f6 {W : World} {b : Nat} {v0 v1 v2 v3 v4 v5 : Value} {t : TypeId} (h : Blk W b #[v0, v1, v2, v3, v4, v5] t) :
    W.frozen? ⟨b, 0, none⟩ = false ∧ W.frozen? ⟨b, 1, none⟩ = false ∧ W.frozen? ⟨b, 2, none⟩ = false ∧ W.frozen? ⟨b, 3, none⟩ = false ∧ W.frozen? ⟨b, 4, none⟩ = false ∧ W.frozen? ⟨b, 5, none⟩ = false :=
  ⟨h.free 0, h.free 1, h.free 2, h.free 3, h.free 4, h.free 5⟩
end Go.Proofs.YtpjleeeligahaaaGreatDoor

namespace Go.Proofs.YtpjleeeligahaaaGreatDoor
open Go.RowKit

/-- A value's bytes. -/
def valB (k n : Int) (s : List UInt8) : List UInt8 := numB k.toNat ++ (if k = 1 then numB (zig n) else if k = 2 then textB s else [])

theorem textB_small {s : ByteArray} (h : s.size ≤ 1000000) : (textB s.data.toList).length ≤ 1000009 := by
  have hl : s.data.toList.length = s.size := Array.length_toList
  have := numB_small (n := s.size) (by omega)
  unfold textB
  rw [List.length_append, hl]
  omega
theorem valB_0 (n : Int) (s : List UInt8) : valB 0 n s = numB 0 := by simp [valB]
theorem valB_1 (n : Int) (s : List UInt8) : valB 1 n s = numB 1 ++ numB (zig n) := by simp [valB]
theorem valB_2 (n : Int) (s : List UInt8) : valB 2 n s = numB 2 ++ textB s := by simp [valB]

set_option maxRecDepth 100000 in
set_option maxHeartbeats 1000000 in
theorem refPValue_any (k n : Int) (s : ByteArray) (w : World) (hk : k = 0 ∨ k = 1 ∨ k = 2) (h0 : -9223372036854775808 ≤ n) (h1 : n ≤ 9223372036854775807) (hs : s.size ≤ 1000000) :
    Calls Tryz.prog 79 #[.agg #[.int .i64 k, .int .i64 n, .string s]] w fun e w' => PutP w (valB k n s.data.toList) e w' := by
  obtain ⟨i0, hi0, hz0, hz1, hz2⟩ := info_parts byt_info
  have H0 := Lib.hid h0
  have H1 := Lib.hid h1
  clear h0 h1
  rcases hk with rfl | rfl | rfl
  all_goals
    go_enter Tryz.func79, Tryz.ntmps79
    go_wp2_with fail
  · have hC := blk_new w #[.int .i64 0, .int .i64 n, .string s] 43
    have hB := b0 w (.cells #[.int .i64 0, .int .i64 n, .string s] 43)
    generalize w.alloc (.cells #[.int .i64 0, .int .i64 n, .string s] 43) = W at hC hB ⊢
    refine (refNumber_any 0 W (by omega)).mono ?_
    rintro e w1 ⟨⟨A, m, c, rfl, hO⟩, hb⟩
    obtain ⟨c0, c1, c2, c3⟩ := (hC.keep hb).c3
    go_wp2_with fail
    go_ret
    exact ⟨⟨A, m, c, rfl, by rw [valB_0]; exact hO.less hB.size⟩, bt hB hb⟩
  · have hC := blk_new w #[.int .i64 1, .int .i64 n, .string s] 43
    have hB := b0 w (.cells #[.int .i64 1, .int .i64 n, .string s] 43)
    generalize w.alloc (.cells #[.int .i64 1, .int .i64 n, .string s] 43) = W at hC hB ⊢
    refine (refNumber_any 1 W (by omega)).mono ?_
    rintro e w1 ⟨⟨A, m, c, rfl, hO⟩, hb⟩
    have hC1 := hC.keep hb
    obtain ⟨c0, c1, c2, c3⟩ := hC1.c3
    have hk1 := hO.len
    have hm1 : m ≤ 9 := by have := numB_small (n := 1) (by omega); omega
    clear hk1
    go_wp2_with fail
    refine (refPInt_any n w1 H0.out H1.out).mono ?_
    rintro e w2 ⟨⟨A2, m2, d, rfl, hO2⟩, hb2⟩
    have hC2 := hC1.keep hb2
    obtain ⟨d0, d1, d2, d3⟩ := hC2.c3
    have hk2 := hO2.len
    have HK2 := Lib.hid hk2
    have hm2 : m2 ≤ 9 := by have := numB_small (zig_lt H0.out H1.out); omega
    clear hk2 c0 c1 c2 c3
    have hO1 := hO.keep hb2
    have hBB := bt hb hb2
    go_wp2_with (at_builtin; refine wpList_apB (base := W.heap.size) (n := m) (m := m2) (l := numB 1) (l2 := numB (zig n)) (by rfl) _ _ (by rfl) Tryz.underlying23 Tryz.underlying23 hi0 hz0 hz1 hz2 (by rfl) (by rfl) hO1 hO2.rd HK2.out (m + m2) rfl (by omega) hBB.size ?_; intro A5 c5 w5 hO5 hb5 hg5; obtain ⟨q0, q1, q2, q3⟩ := (hC.keep (hBB.trans hb5)).c3)
    go_ret
    exact ⟨⟨A5, m + m2, c5, rfl, by rw [valB_1]; exact hO5.less hB.size⟩, bt hB (hBB.trans hb5)⟩
  · have hC := blk_new w #[.int .i64 2, .int .i64 n, .string s] 43
    have hB := b0 w (.cells #[.int .i64 2, .int .i64 n, .string s] 43)
    generalize w.alloc (.cells #[.int .i64 2, .int .i64 n, .string s] 43) = W at hC hB ⊢
    refine (refNumber_any 2 W (by omega)).mono ?_
    rintro e w1 ⟨⟨A, m, c, rfl, hO⟩, hb⟩
    have hC1 := hC.keep hb
    obtain ⟨c0, c1, c2, c3⟩ := hC1.c3
    have hk1 := hO.len
    have hm1 : m ≤ 9 := by have := numB_small (n := 2) (by omega); omega
    clear hk1
    go_wp2_with fail
    refine (refPText_any s w1 hs).mono ?_
    rintro e w2 ⟨⟨A2, m2, d, rfl, hO2⟩, hb2⟩
    have hC2 := hC1.keep hb2
    obtain ⟨d0, d1, d2, d3⟩ := hC2.c3
    have hk2 := hO2.len
    have HK2 := Lib.hid hk2
    have hm2 : m2 ≤ 1000009 := by have := textB_small hs; omega
    clear hk2 c0 c1 c2 c3
    have hO1 := hO.keep hb2
    have hBB := bt hb hb2
    go_wp2_with (at_builtin; refine wpList_apB (base := W.heap.size) (n := m) (m := m2) (l := numB 2) (l2 := textB s.data.toList) (by rfl) _ _ (by rfl) Tryz.underlying23 Tryz.underlying23 hi0 hz0 hz1 hz2 (by rfl) (by rfl) hO1 hO2.rd HK2.out (m + m2) rfl (by omega) hBB.size ?_; intro A5 c5 w5 hO5 hb5 hg5; obtain ⟨q0, q1, q2, q3⟩ := (hC.keep (hBB.trans hb5)).c3)
    go_ret
    exact ⟨⟨A5, m + m2, c5, rfl, by rw [valB_2]; exact hO5.less hB.size⟩, bt hB (hBB.trans hb5)⟩
end Go.Proofs.YtpjleeeligahaaaGreatDoor

namespace Go.Proofs.YtpjleeeligahaaaGreatDoor
open Go.RowKit
attribute [local go_sem ↓] Go.wp_at_zero Go.wp_at_succ

/-- A write as a value, and as cells. -/
abbrev wrC (dev seq : Nat) (K : Nat) (ky : ByteArray) (ka na : Int) (sa : ByteArray) (kb nb : Int) (sb : ByteArray) : Array Value :=
  #[.int .i64 dev, .int .i64 seq, .int .i64 K, .string ky, .int .i64 ka, .int .i64 na, .string sa, .int .i64 kb, .int .i64 nb, .string sb]
/-- Its bytes. -/
def wrB (dev seq K : Nat) (ky : List UInt8) (ka na : Int) (sa : List UInt8) (kb nb : Int) (sb : List UInt8) : List UInt8 :=
  numB dev ++ numB seq ++ numB K ++ textB ky ++ valB ka na sa ++ valB kb nb sb
/-- The ten cells of a block. -/
def Ten (W : World) (b : Nat) (dev seq : Nat) (K : Nat) (ky : ByteArray) (ka na : Int) (sa : ByteArray) (kb nb : Int) (sb : ByteArray) : Prop :=
  W.cell? ⟨b, 0, none⟩ = some (.int .i64 dev) ∧ W.cell? ⟨b, 1, none⟩ = some (.int .i64 seq) ∧ W.cell? ⟨b, 2, none⟩ = some (.int .i64 K) ∧ W.cell? ⟨b, 3, none⟩ = some (.string ky) ∧ W.cell? ⟨b, 4, none⟩ = some (.int .i64 ka) ∧
    W.cell? ⟨b, 5, none⟩ = some (.int .i64 na) ∧ W.cell? ⟨b, 6, none⟩ = some (.string sa) ∧ W.cell? ⟨b, 7, none⟩ = some (.int .i64 kb) ∧ W.cell? ⟨b, 8, none⟩ = some (.int .i64 nb) ∧ W.cell? ⟨b, 9, none⟩ = some (.string sb)
theorem Ten.keep {W W' : World} {b dev seq K : Nat} {ky : ByteArray} {ka na : Int} {sa : ByteArray} {kb nb : Int} {sb : ByteArray} (h : Ten W b dev seq K ky ka na sa kb nb sb) {B : Nat} (hb : Below B W W') (hB : b < B) : Ten W' b dev seq K ky ka na sa kb nb sb := by
  have hc : ∀ i, W'.cell? ⟨b, i, none⟩ = W.cell? ⟨b, i, none⟩ := fun i => hb.cell (p := ⟨b, i, none⟩) hB
  unfold Ten at h ⊢
  simp only [hc]
  exact h
theorem ten_new (w : World) (dev seq K : Nat) (ky : ByteArray) (ka na : Int) (sa : ByteArray) (kb nb : Int) (sb : ByteArray) (t : TypeId) : Ten (w.alloc (.cells (wrC dev seq K ky ka na sa kb nb sb) t)) w.heap.size dev seq K ky ka na sa kb nb sb := by
  have h := blk_new w (wrC dev seq K ky ka na sa kb nb sb) t
  exact ⟨h.cell 0, h.cell 1, h.cell 2, h.cell 3, h.cell 4, h.cell 5, h.cell 6, h.cell 7, h.cell 8, h.cell 9⟩
theorem OwnB.keepG {base : Nat} {W W' : World} {A A3 : Option Addr} {n c : Nat} {l : List UInt8} (h : OwnB base W A n c l) (hg : W.grownBy W' (A3.map (·.block))) (hlt : ∀ a, A3 = some a → a.block < base) : OwnB base W' A n c l := by
  refine World.ownsRow.kept h hg ?_
  cases A with
  | none => exact Or.inl rfl
  | some a =>
    right
    cases A3 with
    | none => simp [Value.ownBlock]
    | some a3 =>
      have h1 := (h.blk rfl).1
      have h2 := hlt a3 rfl
      simp only [Value.ownBlock, Option.map_some, ne_eq, Option.some.injEq]
      omega
theorem below_h {H : Nat} {w w' : World} (h : Below w.heap.size w w') (hH : H ≤ w.heap.size) : Below H w w' := h.mono hH

section
variable {W w' w1 : World} {p q : Addr} {u v : Value} {H : Nat}
theorem sP0 (h : W.cell? p = some u) (k : W.cell? q = some v) : W.drew.cell? p = some u ∧ W.drew.cell? q = some v ∧ Below W.heap.size W W.drew := ⟨h, k, (Below.refl _ _).drew⟩
theorem sP1 (h : w'.cell? p = some u ∧ w'.cell? q = some v ∧ Below H W w') (hp : p.block < H) (hq : q.block < H) (hH : H ≤ W.heap.size) (hb : Below w'.heap.size w' w1) : w1.cell? p = some u ∧ w1.cell? q = some v ∧ Below H W w1 := by
  have hz := h.2.2.size
  exact ⟨(hb.cell (by omega)).trans h.1, (hb.cell (by omega)).trans h.2.1, h.2.2.trans (hb.mono (by omega))⟩
theorem sP2 (h : w'.cell? p = some u ∧ w'.cell? q = some v ∧ Below H W w') (hp : p.block < H) (hq : q.block < H) (hb : Below H w' w1) : w1.cell? p = some u ∧ w1.cell? q = some v ∧ Below H W w1 :=
  ⟨(hb.cell hp).trans h.1, (hb.cell hq).trans h.2.1, h.2.2.trans hb⟩
theorem lessP {A : Option Addr} {n c : Nat} {l : List UInt8} (h : OwnB w'.heap.size w1 A n c l) (hS : w'.cell? p = some u ∧ w'.cell? q = some v ∧ Below H W w') (hH : H ≤ W.heap.size) : OwnB H w1 A n c l := h.less (Nat.le_trans hH hS.2.2.size)
theorem szP (hS : w'.cell? p = some u ∧ w'.cell? q = some v ∧ Below H W w') (hH : H ≤ W.heap.size) : H ≤ w'.heap.size := Nat.le_trans hH hS.2.2.size
end
section
variable {W W0 w' w1 : World} {p q : Addr} {u v : Value} {H b : Nat} {v4 v5 v6 v7 v8 v9 : Value}
theorem sQ0 (h : W.cell? p = some u) (k : W.cell? q = some v) (hB : Below H W0 W) : W.drew.cell? p = some u ∧ W.drew.cell? q = some v ∧ Below H W0 W.drew := ⟨h, k, hB.drew⟩
/-- Six cells, from the fifth on. -/
theorem s60 (h : W.cell? ⟨b, 4, none⟩ = some v4 ∧ W.cell? ⟨b, 5, none⟩ = some v5 ∧ W.cell? ⟨b, 6, none⟩ = some v6 ∧ W.cell? ⟨b, 7, none⟩ = some v7 ∧ W.cell? ⟨b, 8, none⟩ = some v8 ∧ W.cell? ⟨b, 9, none⟩ = some v9) (hB : Below H W0 W) :
    W.drew.cell? ⟨b, 4, none⟩ = some v4 ∧ W.drew.cell? ⟨b, 5, none⟩ = some v5 ∧ W.drew.cell? ⟨b, 6, none⟩ = some v6 ∧ W.drew.cell? ⟨b, 7, none⟩ = some v7 ∧ W.drew.cell? ⟨b, 8, none⟩ = some v8 ∧ W.drew.cell? ⟨b, 9, none⟩ = some v9 ∧ Below H W0 W.drew := ⟨h.1, h.2.1, h.2.2.1, h.2.2.2.1, h.2.2.2.2.1, h.2.2.2.2.2, hB.drew⟩
theorem s62 (h : w'.cell? ⟨b, 4, none⟩ = some v4 ∧ w'.cell? ⟨b, 5, none⟩ = some v5 ∧ w'.cell? ⟨b, 6, none⟩ = some v6 ∧ w'.cell? ⟨b, 7, none⟩ = some v7 ∧ w'.cell? ⟨b, 8, none⟩ = some v8 ∧ w'.cell? ⟨b, 9, none⟩ = some v9 ∧ Below H W0 w') (hp : b < H) (hb : Below H w' w1) :
    w1.cell? ⟨b, 4, none⟩ = some v4 ∧ w1.cell? ⟨b, 5, none⟩ = some v5 ∧ w1.cell? ⟨b, 6, none⟩ = some v6 ∧ w1.cell? ⟨b, 7, none⟩ = some v7 ∧ w1.cell? ⟨b, 8, none⟩ = some v8 ∧ w1.cell? ⟨b, 9, none⟩ = some v9 ∧ Below H W0 w1 := by
  have hc : ∀ i, w1.cell? ⟨b, i, none⟩ = w'.cell? ⟨b, i, none⟩ := fun i => hb.cell (p := ⟨b, i, none⟩) hp
  simp only [hc]
  exact ⟨h.1, h.2.1, h.2.2.1, h.2.2.2.1, h.2.2.2.2.1, h.2.2.2.2.2.1, h.2.2.2.2.2.2.trans hb⟩
theorem s61 (h : w'.cell? ⟨b, 4, none⟩ = some v4 ∧ w'.cell? ⟨b, 5, none⟩ = some v5 ∧ w'.cell? ⟨b, 6, none⟩ = some v6 ∧ w'.cell? ⟨b, 7, none⟩ = some v7 ∧ w'.cell? ⟨b, 8, none⟩ = some v8 ∧ w'.cell? ⟨b, 9, none⟩ = some v9 ∧ Below H W0 w') (hp : b < H) (hH : H ≤ W0.heap.size) (hb : Below w'.heap.size w' w1) :
    w1.cell? ⟨b, 4, none⟩ = some v4 ∧ w1.cell? ⟨b, 5, none⟩ = some v5 ∧ w1.cell? ⟨b, 6, none⟩ = some v6 ∧ w1.cell? ⟨b, 7, none⟩ = some v7 ∧ w1.cell? ⟨b, 8, none⟩ = some v8 ∧ w1.cell? ⟨b, 9, none⟩ = some v9 ∧ Below H W0 w1 :=
  s62 h hp (hb.mono (Nat.le_trans hH h.2.2.2.2.2.2.size))
theorem b6 (h : w'.cell? ⟨b, 4, none⟩ = some v4 ∧ w'.cell? ⟨b, 5, none⟩ = some v5 ∧ w'.cell? ⟨b, 6, none⟩ = some v6 ∧ w'.cell? ⟨b, 7, none⟩ = some v7 ∧ w'.cell? ⟨b, 8, none⟩ = some v8 ∧ w'.cell? ⟨b, 9, none⟩ = some v9 ∧ Below H W0 w') : Below H W0 w' := h.2.2.2.2.2.2
end
theorem ten_tail {W w' : World} {b K : Nat} {ky : ByteArray} {ka na : Int} {sa : ByteArray} {kb nb : Int} {sb : ByteArray}
    (h : W.cell? ⟨b, 2, none⟩ = some (.int .i64 K) ∧ W.cell? ⟨b, 3, none⟩ = some (.string ky) ∧ W.cell? ⟨b, 4, none⟩ = some (.int .i64 ka) ∧ W.cell? ⟨b, 5, none⟩ = some (.int .i64 na) ∧ W.cell? ⟨b, 6, none⟩ = some (.string sa) ∧ W.cell? ⟨b, 7, none⟩ = some (.int .i64 kb) ∧ W.cell? ⟨b, 8, none⟩ = some (.int .i64 nb) ∧ W.cell? ⟨b, 9, none⟩ = some (.string sb))
    {H : Nat} (hb : Below H W w') (hB : b < H) : w'.cell? ⟨b, 2, none⟩ = some (.int .i64 K) ∧ w'.cell? ⟨b, 3, none⟩ = some (.string ky) ∧ w'.cell? ⟨b, 4, none⟩ = some (.int .i64 ka) ∧ w'.cell? ⟨b, 5, none⟩ = some (.int .i64 na) ∧ w'.cell? ⟨b, 6, none⟩ = some (.string sa) ∧ w'.cell? ⟨b, 7, none⟩ = some (.int .i64 kb) ∧ w'.cell? ⟨b, 8, none⟩ = some (.int .i64 nb) ∧ w'.cell? ⟨b, 9, none⟩ = some (.string sb) := by
  have hc : ∀ i, w'.cell? ⟨b, i, none⟩ = W.cell? ⟨b, i, none⟩ := fun i => hb.cell (p := ⟨b, i, none⟩) hB
  simp only [hc]
  exact h
theorem six_keep {W w1 w2 : World} {b H : Nat} {v4 v5 v6 v7 v8 v9 : Value} (h : w1.cell? ⟨b, 4, none⟩ = some v4 ∧ w1.cell? ⟨b, 5, none⟩ = some v5 ∧ w1.cell? ⟨b, 6, none⟩ = some v6 ∧ w1.cell? ⟨b, 7, none⟩ = some v7 ∧ w1.cell? ⟨b, 8, none⟩ = some v8 ∧ w1.cell? ⟨b, 9, none⟩ = some v9)
    (h1 : Below H W w1) (h2 : Below H W w2) (hB : b < H) : w2.cell? ⟨b, 4, none⟩ = some v4 ∧ w2.cell? ⟨b, 5, none⟩ = some v5 ∧ w2.cell? ⟨b, 6, none⟩ = some v6 ∧ w2.cell? ⟨b, 7, none⟩ = some v7 ∧ w2.cell? ⟨b, 8, none⟩ = some v8 ∧ w2.cell? ⟨b, 9, none⟩ = some v9 := by
  have hc : ∀ i, w2.cell? ⟨b, i, none⟩ = w1.cell? ⟨b, i, none⟩ := fun i => (h2.cell (p := ⟨b, i, none⟩) hB).trans (h1.cell (p := ⟨b, i, none⟩) hB).symm
  simp only [hc]
  exact h
theorem refPText_b (s : ByteArray) (w : World) (hs : s.size ≤ 1000) : Calls Tryz.prog 78 #[.string s] w fun e w' => (∃ (A : Option Addr) (m c : Nat), e = .returned (.slice A m c) ∧ OwnB w.heap.size w' A m c (textB s.data.toList) ∧ m ≤ 1000009) ∧ Below w.heap.size w w' :=
  (refPText_any s w (by omega)).mono fun _ _ ⟨⟨A, m, c, he, hO⟩, hb⟩ => ⟨⟨A, m, c, he, hO, by have := textB_small (s := s) (by omega); have := hO.len; omega⟩, hb⟩
theorem valB_small {k n : Int} {s : ByteArray} (hk : k = 0 ∨ k = 1 ∨ k = 2) (h0 : -9223372036854775808 ≤ n) (h1 : n ≤ 9223372036854775807) (hs : s.size ≤ 1000000) : (valB k n s.data.toList).length ≤ 1000018 := by
  rcases hk with rfl | rfl | rfl
  · rw [valB_0]
    have := numB_small (n := 0) (by omega)
    omega
  · rw [valB_1, List.length_append]
    have := numB_small (n := 1) (by omega)
    have := numB_small (zig_lt h0 h1)
    omega
  · rw [valB_2, List.length_append]
    have := numB_small (n := 2) (by omega)
    have := textB_small hs
    omega
theorem refPValue_b (k n : Int) (s : ByteArray) (w : World) (hk : k = 0 ∨ k = 1 ∨ k = 2) (h0 : -9223372036854775808 ≤ n) (h1 : n ≤ 9223372036854775807) (hs : s.size ≤ 1000) :
    Calls Tryz.prog 79 #[.agg #[.int .i64 k, .int .i64 n, .string s]] w fun e w' => (∃ (A : Option Addr) (m c : Nat), e = .returned (.slice A m c) ∧ OwnB w.heap.size w' A m c (valB k n s.data.toList) ∧ m ≤ 1000018) ∧ Below w.heap.size w w' :=
  (refPValue_any k n s w hk h0 h1 (by omega)).mono fun _ _ ⟨⟨A, m, c, he, hO⟩, hb⟩ => ⟨⟨A, m, c, he, hO, by have := valB_small (s := s) hk h0 h1 (by omega); have := hO.len; omega⟩, hb⟩
theorem refNumber_b (n : Nat) (w : World) (hn : n ≤ 1000) : Calls Tryz.prog 36 #[.int .u64 n] w fun e w' => (∃ (A : Option Addr) (m c : Nat), e = .returned (.slice A m c) ∧ OwnB w.heap.size w' A m c (numB n) ∧ m ≤ 9) ∧ Below w.heap.size w w' :=
  (refNumber_any n w (by omega)).mono fun _ _ ⟨⟨A, m, c, he, hO⟩, hb⟩ => ⟨⟨A, m, c, he, hO, by have := numB_small (n := n) (by omega); have := hO.len; omega⟩, hb⟩

set_option maxRecDepth 100000 in
set_option maxHeartbeats 8000000 in
theorem refPWrite_any (dev seq K : Nat) (ky : ByteArray) (ka na : Int) (sa : ByteArray) (kb nb : Int) (sb : ByteArray) (w : World) (hd : dev ≤ 1000) (hq : seq ≤ 1000) (hK : K ≤ 1000) (hky : ky.size ≤ 1000)
    (hka : ka = 0 ∨ ka = 1 ∨ ka = 2) (ha0 : -9223372036854775808 ≤ na) (ha1 : na ≤ 9223372036854775807) (hsa : sa.size ≤ 1000) (hkb : kb = 0 ∨ kb = 1 ∨ kb = 2) (hb0 : -9223372036854775808 ≤ nb) (hb1 : nb ≤ 9223372036854775807) (hsb : sb.size ≤ 1000) :
    Calls Tryz.prog 37 #[.agg (wrC dev seq K ky ka na sa kb nb sb)] w fun e w' => PutP w (wrB dev seq K ky.data.toList ka na sa.data.toList kb nb sb.data.toList) e w' := by
  obtain ⟨i0, hi0, hz0, hz1, hz2⟩ := info_parts byt_info
  have HVa := Lib.hid (fun W => refPValue_b ka na sa W hka ha0 ha1 hsa)
  have HVb := Lib.hid (fun W => refPValue_b kb nb sb W hkb hb0 hb1 hsb)
  have d0 : (0 : Int) ≤ (dev : Int) := by omega
  have d1 : (dev : Int) ≤ 1000 := by omega
  have s0 : (0 : Int) ≤ (seq : Int) := by omega
  have s1 : (seq : Int) ≤ 1000 := by omega
  have k0 : (0 : Int) ≤ (K : Int) := by omega
  have k1 : (K : Int) ≤ 1000 := by omega
  clear hka hkb ha0 ha1 hb0 hb1
  go_enter Tryz.func37, Tryz.ntmps37
  go_wp2_with fail
  have hT := ten_new w dev seq K ky ka na sa kb nb sb 47
  have hB := b0 w (.cells (wrC dev seq K ky ka na sa kb nb sb) 47)
  have hlt : w.heap.size < (w.alloc (.cells (wrC dev seq K ky ka na sa kb nb sb) 47)).heap.size := by simp
  generalize w.alloc (.cells (wrC dev seq K ky ka na sa kb nb sb) 47) = W at hT hB hlt ⊢
  have HB := Lib.hid hB
  clear hB
  generalize w.heap.size = b at hT hlt ⊢
  obtain ⟨t0, t1, t2⟩ := hT
  have T2 := Lib.hid t2
  clear t2
  have hle := Nat.le_refl W.heap.size
  have wd : IntKind.u64.wrap (dev : Int) = (dev : Int) := wrap_size (by omega)
  have wq : IntKind.u64.wrap (seq : Int) = (seq : Int) := wrap_size (by omega)
  go_region_held3 (fun w' => w'.cell? ⟨b, 0, none⟩ = some (.int .i64 dev) ∧ w'.cell? ⟨b, 1, none⟩ = some (.int .i64 seq) ∧ Below W.heap.size W w')
    (first | assumption | exact sP0 t0 t1 | exact sP2 (by assumption) hlt hlt (by assumption) | exact sP1 (by assumption) hlt hlt hle (by assumption))
    (first
      | (go_at_call 36; ((with_reducible refine (refNumber_b dev _ hd).mono ?_); rintro e w1 ⟨⟨A1, m1, c1, rfl, hO1, hm1⟩, hb1⟩; replace hO1 := lessP hO1 (by assumption) hle; try replace hO2 := hO2.keep hb1))
      | (go_at_call 36; ((with_reducible refine (refNumber_b seq _ hq).mono ?_); rintro e w2 ⟨⟨A2, m2, c2, rfl, hO2, hm2⟩, hb2⟩; replace hO2 := lessP hO2 (by assumption) hle; try replace hO1 := hO1.keep hb2))
      | (refine step_apB (o := ⟨some 14, _, _, _, _, _⟩) (base := W.heap.size) (n := m1) (m := m2) (l := numB dev) (l2 := numB seq) (by rfl) _ _ (by rfl) Tryz.underlying23 Tryz.underlying23 hi0 hz0 hz1 hz2 (by rfl) (by rfl) hO1 hO2.rd hO2.len (m1 + m2) rfl (by omega) (szP (by assumption) hle) ?_; intro A3 c3 w3 hO3 hb3 hg3))
  have hS1 := (by assumption : _ ∧ _ ∧ Below W.heap.size W w3).2.2
  obtain ⟨t2, t3, t4⟩ := ten_tail T2.out hS1 hlt
  have T4 := Lib.hid t4
  have hn3 : m1 + m2 ≤ 18 := by omega
  clear hO1 hO2 hb1 hb2 hb3 hg3 t0 t1 T2 t4 wd wq hm1 hm2
  generalize m1 + m2 = n3 at hO3 hn3 ⊢
  have wK : IntKind.u64.wrap (K : Int) = (K : Int) := wrap_size (by omega)
  go_wp2_with fail
  replace hO3 := hO3.drew_
  go_region_held3 (fun w' => w'.cell? ⟨b, 2, none⟩ = some (.int .i64 K) ∧ w'.cell? ⟨b, 3, none⟩ = some (.string ky) ∧ Below W.heap.size W w')
    (first | assumption | exact sQ0 t2 t3 hS1 | exact sP2 (by assumption) hlt hlt (by assumption) | exact sP1 (by assumption) hlt hlt hle (by assumption))
    (first
      | (go_at_call 36; ((with_reducible refine (refNumber_b K _ hK).mono ?_); rintro e w4 ⟨⟨A4, m4, c4, rfl, hO4, hm4⟩, hb4⟩; replace hO4 := lessP hO4 (by assumption) hle; replace hO3 := hO3.keep hb4))
      | (refine step_apB (o := ⟨some 21, _, _, _, _, _⟩) (base := W.heap.size) (n := n3) (m := m4) (l := numB dev ++ numB seq) (l2 := numB K) (by rfl) _ _ (by rfl) Tryz.underlying23 Tryz.underlying23 hi0 hz0 hz1 hz2 (by rfl) (by rfl) hO3 hO4.rd hO4.len (n3 + m4) rfl (by omega) (szP (by assumption) hle) ?_; intro A5 c5 w5 hO5 hb5 hg5)
      | (go_at_call 78; ((with_reducible refine (refPText_b ky _ hky).mono ?_); rintro e w6 ⟨⟨A6, m6, c6, rfl, hO6, hm6⟩, hb6⟩; replace hO6 := lessP hO6 (by assumption) hle; replace hO5 := hO5.keep hb6))
      | (refine step_apB (o := ⟨some 26, _, _, _, _, _⟩) (base := W.heap.size) (n := n3 + m4) (m := m6) (l := numB dev ++ numB seq ++ numB K) (l2 := textB ky.data.toList) (by rfl) _ _ (by rfl) Tryz.underlying23 Tryz.underlying23 hi0 hz0 hz1 hz2 (by rfl) (by rfl) hO5 hO6.rd hO6.len (n3 + m4 + m6) rfl (by omega) (szP (by assumption) hle) ?_; intro A7 c7 w7 hO7 hb7 hg7))
  have hS2 := (by assumption : _ ∧ _ ∧ Below W.heap.size W w7).2.2
  have t5 := six_keep T4.out hS1 hS2 hlt
  have hn7 : n3 + m4 + m6 ≤ 1000050 := by omega
  clear hO3 hO4 hO5 hO6 hb4 hb5 hb6 hb7 hg5 hg7 t2 t3 wK hm4 hm6 hS1
  generalize n3 + m4 + m6 = n7 at hO7 hn7 ⊢
  have T5 := Lib.hid t5
  clear t5 T4
  go_wp2_with fail
  replace hO7 := hO7.drew_
  go_region_held3 (fun w' => w'.cell? ⟨b, 4, none⟩ = some (.int .i64 ka) ∧ w'.cell? ⟨b, 5, none⟩ = some (.int .i64 na) ∧ w'.cell? ⟨b, 6, none⟩ = some (.string sa) ∧ w'.cell? ⟨b, 7, none⟩ = some (.int .i64 kb) ∧ w'.cell? ⟨b, 8, none⟩ = some (.int .i64 nb) ∧ w'.cell? ⟨b, 9, none⟩ = some (.string sb) ∧ Below W.heap.size W w')
    (first | assumption | exact s60 T5.out hS2 | exact s62 (by assumption) hlt (by assumption) | exact s61 (by assumption) hlt hle (by assumption))
    (first
      | (go_at_call 79; ((with_reducible refine (HVa.out _).mono ?_); rintro e w8 ⟨⟨A8, m8, c8, rfl, hO8, hm8⟩, hb8⟩; replace hO8 := hO8.less (Nat.le_trans hle (b6 (by assumption)).size); replace hO7 := hO7.keep hb8))
      | (refine step_apB (o := ⟨some 32, _, _, _, _, _⟩) (base := W.heap.size) (n := n7) (m := m8) (l := numB dev ++ numB seq ++ numB K ++ textB ky.data.toList) (l2 := valB ka na sa.data.toList) (by rfl) _ _ (by rfl) Tryz.underlying23 Tryz.underlying23 hi0 hz0 hz1 hz2 (by rfl) (by rfl) hO7 hO8.rd hO8.len (n7 + m8) rfl (by omega) (b6 (by assumption)).size ?_; intro A9 c9 w9 hO9 hb9 hg9)
      | (go_at_call 79; ((with_reducible refine (HVb.out _).mono ?_); rintro e w10 ⟨⟨A10, m10, c10, rfl, hO10, hm10⟩, hb10⟩; replace hO10 := hO10.less (Nat.le_trans hle (b6 (by assumption)).size); replace hO9 := hO9.keep hb10))
      | (refine step_apB (o := ⟨some 37, _, _, _, _, _⟩) (base := W.heap.size) (n := n7 + m8) (m := m10) (l := numB dev ++ numB seq ++ numB K ++ textB ky.data.toList ++ valB ka na sa.data.toList) (l2 := valB kb nb sb.data.toList) (by rfl) _ _ (by rfl) Tryz.underlying23 Tryz.underlying23 hi0 hz0 hz1 hz2 (by rfl) (by rfl) hO9 hO10.rd hO10.len (n7 + m8 + m10) rfl (by omega) (b6 (by assumption)).size ?_; intro A11 c11 w11 hO11 hb11 hg11))
  have hS3 := b6 (by assumption : _ ∧ _ ∧ _ ∧ _ ∧ _ ∧ _ ∧ Below W.heap.size W w11)
  go_wp2_with fail
  go_ret
  exact ⟨⟨A11, n7 + m8 + m10, c11, rfl, hO11.less HB.out.size⟩, bt HB.out hS3⟩
end Go.Proofs.YtpjleeeligahaaaGreatDoor

namespace Go.Proofs.YtpjleeeligahaaaGreatDoor
open Go.RowKit

/-- string(..) of bytes that are read. -/
theorem conv_rd {B : Nat} (W : World) (A : Option Addr) (n c : Nat) (l : List UInt8) (hn : l.length = n) (h : RdB B W A l) : (convert 23 9 (.slice A n c)).run Tryz.prog W = .ok (.string ⟨l.toArray⟩) W := by
  subst hn
  cases l with
  | nil =>
    cases A with
    | none => exact run_convert_bytes_nil W 23 5 Tryz.underlying23 Tryz.underlying5 0 c 9 Tryz.underlying9
    | some ad => exact run_convert_bytes_back W 23 9 5 ad c [] Tryz.underlying23 Tryz.underlying5 Tryz.underlying9 (fun j hj => absurd hj (by simp))
  | cons x t =>
    obtain ⟨ad, rfl, _, _⟩ := h 0 x rfl
    refine run_convert_bytes_back W 23 9 5 ad c (x :: t) Tryz.underlying23 Tryz.underlying5 Tryz.underlying9 ?_
    intro j hj
    obtain ⟨a2, e, _, hc⟩ := h j _ (List.getElem?_eq_getElem hj)
    injection e with e
    subst e
    exact hc
end Go.Proofs.YtpjleeeligahaaaGreatDoor

namespace Go.Proofs.YtpjleeeligahaaaGreatDoor
open Go.RowKit

/-- What the code reads of the package variables: errors.errorType, and pack's sentinel, whose text lies at S. -/
def LaidP (S : Addr) (W : World) : Prop :=
  W.cell? ⟨1, 0, none⟩ = some (.iface 215 (.agg #[.pointer (some ⟨3, 82, none⟩)])) ∧ W.cell? ⟨0, 0, none⟩ = some (.iface 258 (.pointer (some S)))
theorem LaidP.keep {S : Addr} {W W' : World} (h : LaidP S W) (hb : Below W.heap.size W W') : LaidP S W' :=
  ⟨(hb.cell (World.block_lt_of_cell? W _ h.1)).trans h.1, (hb.cell (World.block_lt_of_cell? W _ h.2)).trans h.2⟩
/-- What a reader has left; none: it has an error. -/
abbrev Rest := Option (List UInt8)
def numOf (st : Rest) (most : Nat) : Nat × Rest := match st with
  | none => (0, none)
  | some b => if (takeNum b most).2 = 0 then (0, none) else ((takeNum b most).1, some (b.drop (takeNum b most).2))
def intOfR (st : Rest) : Int × Rest := match st with
  | none => (0, none)
  | some b => if (takeIntB b).2 = 0 then (0, none) else ((takeIntB b).1, some (b.drop (takeIntB b).2))
def textOf (st : Rest) (most : Nat) : List UInt8 × Rest := match st with
  | none => ([], none)
  | some b => if (takeTextB b most).2 = 0 then ([], none) else ((takeTextB b most).1, some (b.drop (takeTextB b most).2))
def flagOf (st : Rest) : Bool × Rest := match st with
  | none => (false, none)
  | some b => if (takeFlagB b).2 = 0 then (false, none) else ((takeFlagB b).1, some (b.drop (takeFlagB b).2))
def endOf (st : Rest) : Int := match st with
  | some [] => 0
  | _ => 2
/-- Bytes that a call answered. -/
def PutR (w : World) (L : List UInt8) (e : Ending) (w' : World) : Prop :=
  (∃ (A : Option Addr) (n c : Nat), e = .returned (.slice A n c) ∧ L.length = n ∧ RdB w'.heap.size w' A L ∧ n ≤ c) ∧ Below w.heap.size w w'
/-- A write that is all nought. -/
abbrev wr0 : Value := .agg #[.int .i64 0, .int .i64 0, .int .i64 0, .string ⟨#[]⟩, .int .i64 0, .int .i64 0, .string ⟨#[]⟩, .int .i64 0, .int .i64 0, .string ⟨#[]⟩]
theorem below_g {w0 w w' : World} {g : Nat} (h : Below w0.heap.size w0 w) (hg : w.grownBy w' (some g)) (hle : w0.heap.size ≤ g) : Below w0.heap.size w0 w' :=
  h.grown hg h.size fun k hk => by
    injection hk with hk
    omega
end Go.Proofs.YtpjleeeligahaaaGreatDoor

namespace Go.Proofs.YtpjleeeligahaaaGreatDoor

/-- What a reader has left; none: it has an error. -/
abbrev RestM := Option (List UInt8)
def takeM (st : RestM) (n : Nat) : List UInt8 × RestM := match st with
  | none => ([], none)
  | some b => if n ≤ b.length then (b.take n, some (b.drop n)) else ([], none)
def nextM (st : RestM) : UInt8 × RestM := match st with
  | some (c :: t) => (c, some t)
  | _ => (0, none)
/-- An error, if what is asked doesn't hold. -/
def mustM (h : Bool) (st : RestM) : RestM := if h then st else none
def headOk (d : List UInt8) : Bool := match d with
  | [] => true
  | c :: _ => c != 0
/-- What is left behind a number's bytes. -/
def digM (st : RestM) : List UInt8 × RestM := takeM (mustM (decide ((nextM st).1.toNat ≤ 8)) (nextM st).2) (nextM st).1.toNat
def leftM (st : RestM) (most : Nat) : RestM := mustM (decide (beV (digM st).1 ≤ most)) (mustM (headOk (digM st).1) (digM st).2)
def soundM {α : Type} (z : α) (st : RestM) (x : α) : α := match st with
  | none => z
  | some _ => x
theorem mustM_none (h : Bool) : mustM h none = none := by cases h <;> rfl
theorem takeM_len (st : RestM) (n : Nat) : (takeM st n).1.length ≤ n := by
  cases st with
  | none => exact Nat.zero_le _
  | some b =>
    unfold takeM
    by_cases h : n ≤ b.length
    · simp [h]
    · simp [h]
theorem digM_len (st : RestM) : (digM st).1.length ≤ 8 := by
  by_cases h : (nextM st).1.toNat ≤ 8
  · exact Nat.le_trans (takeM_len _ _) h
  · unfold digM
    rw [show mustM (decide ((nextM st).1.toNat ≤ 8)) (nextM st).2 = none by simp [mustM, h]]
    exact Nat.zero_le _
theorem digM_lt (st : RestM) : beV (digM st).1 < 18446744073709551616 := by
  have h1 := beV_lt (digM st).1
  have h2 := Nat.pow_le_pow_right (show 1 ≤ 256 by omega) (digM_len st)
  rw [pow_eight] at h2
  omega
/-- A number is taken just if it stands there. -/
theorem number_is (st : RestM) (most : Nat) : (soundM 0 (leftM st most) (beV (digM st).1), leftM st most) = (match st with
    | none => (0, none)
    | some b => if (takeNum b most).2 = 0 then (0, none) else ((takeNum b most).1, some (b.drop (takeNum b most).2))) := by
  cases st with
  | none =>
    have e : digM none = ([], none) := by simp [digM, nextM, takeM, mustM_none]
    simp [leftM, e, mustM_none, soundM]
  | some b =>
    cases b with
    | nil =>
      have e : digM (some []) = ([], none) := by simp [digM, nextM, takeM, mustM_none]
      simp [leftM, e, mustM_none, soundM, takeNum]
    | cons c t =>
      simp only [takeNum_cons]
      have hn : nextM (some (c :: t)) = (c, some t) := rfl
      by_cases h8 : 8 < c.toNat
      · have e : digM (some (c :: t)) = ([], none) := by
          unfold digM
          rw [hn]
          have h8' : ¬ c.toNat ≤ 8 := by omega
          simp [mustM, takeM, h8']
        simp [leftM, e, mustM_none, soundM, h8]
      · by_cases hl : t.length < c.toNat
        · have e : digM (some (c :: t)) = ([], none) := by
            unfold digM
            rw [hn]
            have h8' : c.toNat ≤ 8 := by omega
            have hl' : ¬ c.toNat ≤ t.length := by omega
            simp [mustM, takeM, h8', hl']
          simp [leftM, e, mustM_none, soundM, hl]
        · have h8' : c.toNat ≤ 8 := by omega
          have hl' : c.toNat ≤ t.length := by omega
          have e : digM (some (c :: t)) = (t.take c.toNat, some (t.drop c.toNat)) := by
            unfold digM
            rw [hn]
            simp [mustM, takeM, h8', hl']
          by_cases hz : 0 < c.toNat ∧ t.head? = some 0
          · have hh : headOk (t.take c.toNat) = false := by
              obtain ⟨h0, h1⟩ := hz
              cases t with
              | nil => simp at h1
              | cons x r =>
                simp at h1
                subst h1
                obtain ⟨k, hk⟩ : ∃ k, c.toNat = k + 1 := ⟨c.toNat - 1, by omega⟩
                rw [hk]
                rfl
            simp [leftM, e, hh, mustM, soundM, hz]
          · have hh : headOk (t.take c.toNat) = true := by
              cases hc : t.take c.toNat with
              | nil => rfl
              | cons x r =>
                show (x != 0) = true
                simp only [bne_iff_ne, ne_eq]
                intro hx
                subst hx
                refine hz ⟨?_, ?_⟩
                · rcases Nat.eq_zero_or_pos c.toNat with h | h
                  · rw [h] at hc
                    simp at hc
                  · exact h
                · cases t with
                  | nil => simp at hc
                  | cons y q =>
                    obtain ⟨k, hk⟩ : ∃ k, c.toNat = k + 1 := by
                      rcases Nat.eq_zero_or_pos c.toNat with h | h
                      · rw [h] at hc
                        simp at hc
                      · exact ⟨c.toNat - 1, by omega⟩
                    rw [hk, List.take_succ_cons] at hc
                    injection hc with hc _
                    simp [hc]
            have hc : ¬ (8 < c.toNat ∨ t.length < c.toNat ∨ (0 < c.toNat ∧ t.head? = some 0)) := by
              rintro (h | h | h)
              · omega
              · omega
              · exact hz h
            simp only [if_neg hc]
            by_cases hm : most < beV (t.take c.toNat)
            · have hm' : ¬ beV (t.take c.toNat) ≤ most := by omega
              simp [leftM, e, mustM, soundM, hm, hm']
            · have hm' : beV (t.take c.toNat) ≤ most := by omega
              simp only [if_neg hm]
              simp [leftM, e, hh, mustM, soundM, hm', Nat.add_comm 1]
end Go.Proofs.YtpjleeeligahaaaGreatDoor

namespace Go.Proofs.YtpjleeeligahaaaGreatDoor
open Go.RowKit

/-- An error that a reader may have: the sentinel, whose text lies at S, or one of the type 'wrong'. -/
def ErrP (S : Addr) (e : Value) : Prop := e = .iface 258 (.pointer (some S)) ∨ ∃ s : ByteArray, e = .iface 96 (.agg #[.string s, .int .i64 2])
/-- A reader's block: what it still has, or an error. -/
def RdrP (S : Addr) (W : World) (g : Nat) (st : Rest) : Prop := match st with
  | some b => b.length ≤ 1000000 ∧ ∃ s : ByteArray, s.data.toList = b ∧ Blk W g #[.string s, .nilIface] 84
  | none => ∃ e, ErrP S e ∧ Blk W g #[.string ⟨#[]⟩, e] 84
theorem blk_grown {W W' : World} {b : Nat} {cs : Array Value} {t : TypeId} {row : Option Nat} (h : Blk W b cs t) (hg : W.grownBy W' row) (hr : row ≠ some b) : Blk W' b cs t :=
  (hg.block b h.lt (fun e => hr e.symm)).trans h
theorem RdrP.lt {S : Addr} {W : World} {g : Nat} {st : Rest} (h : RdrP S W g st) : g < W.heap.size := by
  cases st with
  | none => obtain ⟨e, _, hb⟩ := h; exact hb.lt
  | some b => obtain ⟨_, s, _, hb⟩ := h; exact hb.lt
theorem RdrP.keep {S : Addr} {W W' : World} {g : Nat} {st : Rest} {row : Option Nat} (h : RdrP S W g st) (hg : W.grownBy W' row) (hr : row ≠ some g) : RdrP S W' g st := by
  cases st with
  | none => obtain ⟨e, he, hb⟩ := h; exact ⟨e, he, blk_grown hb hg hr⟩
  | some b => obtain ⟨hl, s, hs, hb⟩ := h; exact ⟨hl, s, hs, blk_grown hb hg hr⟩
theorem grown_below {W W' : World} (h : Below W.heap.size W W') (row : Option Nat) : W.grownBy W' row := ⟨h.os, h.tape, h.output, h.size, fun k hk _ => h.block k hk⟩
theorem below_grown {B : Nat} {W W' : World} {g : Nat} (h : W.grownBy W' (some g)) (hB : B ≤ g) (hz : B ≤ W.heap.size) : Below B W W' := ⟨h.os, h.tape, h.output, h.size, fun k hk => h.block k (by omega) (by intro e; injection e; omega)⟩
theorem RdrP.below {S : Addr} {W W' : World} {g : Nat} {st : Rest} (h : RdrP S W g st) (hb : Below W.heap.size W W') : RdrP S W' g st := h.keep (row := none) (grown_below hb none) (by simp)
theorem RdrP.str {S : Addr} {W : World} {g : Nat} {st : Rest} (h : RdrP S W g st) : ∃ s, W.cell? ⟨g, 0, none⟩ = some (.string s) := by
  cases st with
  | none => obtain ⟨e, _, hb⟩ := h; exact ⟨_, hb.cell 0⟩
  | some b => obtain ⟨_, s, _, hb⟩ := h; exact ⟨_, hb.cell 0⟩
/-- What the reader's own calls read of the package variables: pack's sentinel alone. -/
def LaidS (S : Addr) (W : World) : Prop := W.cell? ⟨0, 0, none⟩ = some (.iface 258 (.pointer (some S)))
theorem LaidP.s {S : Addr} {W : World} (h : LaidP S W) : LaidS S W := h.2
instance {S : Addr} {W : World} : Coe (LaidP S W) (LaidS S W) := ⟨LaidP.s⟩
theorem LaidS.keep {S : Addr} {W W' : World} (h : LaidS S W) (hb : Below W.heap.size W W') : LaidS S W' := (hb.cell (World.block_lt_of_cell? W _ h)).trans h
theorem LaidP.grown {S : Addr} {W W' : World} {g : Nat} {st : Rest} (h : LaidP S W) (hR : RdrP S W g st) (hg : W.grownBy W' (some g)) : LaidP S W' := by
  obtain ⟨s, hs⟩ := hR.str
  have hne : ∀ k t v, W.cell? ⟨k, 0, none⟩ = some (.iface t v) → some k ≠ some g := by
    intro k t v hk e
    injection e with e
    subst e
    rw [hs] at hk
    injection hk with hk
    cases hk
  exact ⟨hg.cell h.1 (hne _ _ _ h.1), hg.cell h.2 (hne _ _ _ h.2)⟩
theorem LaidS.grown {S : Addr} {W W' : World} {g : Nat} {st : Rest} (h : LaidS S W) (hR : RdrP S W g st) (hg : W.grownBy W' (some g)) : LaidS S W' := by
  obtain ⟨s, hs⟩ := hR.str
  have hne : ∀ k t v, W.cell? ⟨k, 0, none⟩ = some (.iface t v) → some k ≠ some g := by
    intro k t v hk e
    injection e with e
    subst e
    rw [hs] at hk
    injection hk with hk
    cases hk
  exact hg.cell h (hne _ _ _ h)
theorem set_grown {W : World} {g i : Nat} {v : Value} : W.grownBy (W.setCell ⟨g, i, none⟩ v) (some g) :=
  ⟨rfl, rfl, rfl, by simp, fun k _ hk => Below.heap_setCell W ⟨g, i, none⟩ v k (fun e => hk (by rw [e]))⟩
theorem no_off (a b : Nat) : (⟨a, b, none⟩ : Addr) = ⟨a, b, none⟩ := rfl

set_option maxRecDepth 100000 in
/-- A reader over bytes. -/
theorem rOpen_any (S : Addr) (A : Option Addr) (n c : Nat) (l : List UInt8) (w : World) (hl : l.length = n) (hn : n ≤ 1000000) (hr : RdB w.heap.size w A l) :
    Calls Tryz.prog 10 #[.slice A n c] w fun e w' => (∃ g : Nat, e = .returned (.pointer (some ⟨g, 0, none⟩)) ∧ RdrP S w' g (some l) ∧ w.heap.size ≤ g) ∧ Below w.heap.size w w' := by
  have hcv := conv_rd w A n c l hl hr
  go_enter Tryz.func10, Tryz.ntmps10
  go_wp2_with fail
  go_ret
  exact ⟨⟨w.heap.size, rfl, ⟨by omega, ⟨l.toArray⟩, rfl, blk_new w _ _⟩, Nat.le_refl _⟩, b0 w _⟩

theorem errP_nil {S : Addr} {e : Value} (h : ErrP S e) : ∃ t v, e = .iface t v := by
  rcases h with rfl | ⟨s, rfl⟩
  · exact ⟨_, _, rfl⟩
  · exact ⟨_, _, rfl⟩

set_option maxRecDepth 100000 in
/-- An error, if there is none yet. -/
theorem fail_any (S : Addr) (g : Nat) (st : Rest) (e0 : Value) (w : World) (hR : RdrP S w g st) (he : ErrP S e0) :
    Calls Tryz.prog 114 #[.pointer (some ⟨g, 0, none⟩), e0] w fun e w' => e = .returned (.tuple #[]) ∧ RdrP S w' g none ∧ w.grownBy w' (some g) := by
  cases st with
  | none =>
    obtain ⟨e1, he1, hb⟩ := hR
    have c0 := hb.cell 0
    have c1 := hb.cell 1
    rcases he1 with rfl | ⟨s, rfl⟩
    all_goals
      go_enter Tryz.func114, Tryz.ntmps114
      go_wp2_with fail
      go_end0
    · exact ⟨rfl, ⟨_, .inl rfl, hb⟩, World.grownBy.refl _ _⟩
    · exact ⟨rfl, ⟨_, .inr ⟨s, rfl⟩, hb⟩, World.grownBy.refl _ _⟩
  | some b =>
    obtain ⟨hl, s, hs, hb⟩ := hR
    have c0 := hb.cell 0
    have c1 := hb.cell 1
    have f0 := hb.free 0
    have f1 := hb.free 1
    obtain ⟨t1, v1, rfl⟩ := errP_nil he
    go_enter Tryz.func114, Tryz.ntmps114
    go_wp2_with fail
    go_end0
    exact ⟨rfl, ⟨_, he, (hb.set 0 _).set 1 _⟩, set_grown.trans set_grown⟩

set_option maxRecDepth 100000 in
/-- An error, if what is asked doesn't hold. -/
theorem must_any (S : Addr) (g : Nat) (st : Rest) (h : Bool) (why : ByteArray) (w : World) (hR : RdrP S w g st) :
    Calls Tryz.prog 67 #[.pointer (some ⟨g, 0, none⟩), .bool h, .string why] w fun e w' => e = .returned (.tuple #[]) ∧ RdrP S w' g (mustM h st) ∧ w.grownBy w' (some g) := by
  cases h with
  | true =>
    go_enter Tryz.func67, Tryz.ntmps67
    go_wp2_with fail
    go_end0
    exact ⟨rfl, hR, World.grownBy.refl _ _⟩
  | false =>
    go_enter Tryz.func67, Tryz.ntmps67
    go_wp2_with fail
    refine (fail_any S g st _ w hR (.inr ⟨why, rfl⟩)).mono ?_
    rintro e w1 ⟨rfl, hR1, hg1⟩
    go_wp2_with fail
    go_end0
    exact ⟨rfl, hR1, hg1⟩

theorem ext_take (s : ByteArray) (n : Nat) : (s.extract 0 n).data.toList = s.data.toList.take n := by
  rw [ByteArray.data_extract, Array.toList_extract]
  simp
theorem ext_drop (s : ByteArray) (n : Nat) : (s.extract n s.size).data.toList = s.data.toList.drop n := by
  have h : s.size = s.data.toList.length := Array.length_toList.symm
  rw [ByteArray.data_extract, Array.toList_extract, List.extract_eq_take_drop, h]
  exact List.take_of_length_le (by rw [List.length_drop]; exact Nat.le_refl _)

set_option maxRecDepth 100000 in
set_option maxHeartbeats 1000000 in
theorem take_any (S : Addr) (g : Nat) (st : Rest) (n : Nat) (w : World) (hL : LaidS S w) (hR : RdrP S w g st) (hn : n ≤ 9223372036854775807) :
    Calls Tryz.prog 68 #[.pointer (some ⟨g, 0, none⟩), .int .i64 n] w fun e w' => (∃ s : ByteArray, e = .returned (.string s) ∧ s.data.toList = (takeM st n).1) ∧ RdrP S w' g (takeM st n).2 ∧ w.grownBy w' (some g) := by
  have hS : w.cell? ⟨0, 0, none⟩ = some (.iface 258 (.pointer (some S))) := hL
  cases st with
  | none =>
    have HR := Lib.hid hR
    obtain ⟨e1, he1, hb⟩ := hR
    obtain ⟨t1, v1, rfl⟩ := errP_nil he1
    have c0 := hb.cell 0
    have c1 := hb.cell 1
    by_cases h0 : n = 0
    · subst h0
      go_enter Tryz.func68, Tryz.ntmps68
      go_wp2_with fail
      go_ret
      exact ⟨⟨_, rfl, rfl⟩, HR.out, World.grownBy.refl _ _⟩
    · have hpos : (0 : Int) < (n : Int) := by omega
      go_enter Tryz.func68, Tryz.ntmps68
      go_wp2_with fail
      refine (fail_any S g none _ w HR.out (.inl rfl)).mono ?_
      rintro e w1 ⟨rfl, hR1, hg1⟩
      have HR1 := Lib.hid hR1
      obtain ⟨e2, he2, hb2⟩ := hR1
      obtain ⟨t2, v2, rfl⟩ := errP_nil he2
      have d0 := hb2.cell 0
      have d1 := hb2.cell 1
      go_wp2_with fail
      go_ret
      exact ⟨⟨_, rfl, rfl⟩, HR1.out, hg1⟩
  | some b =>
    have HR := Lib.hid hR
    obtain ⟨hl, s, hs, hb⟩ := hR
    have hsz : s.size = b.length := by rw [← hs]; exact Array.length_toList.symm
    have c0 := hb.cell 0
    have c1 := hb.cell 1
    by_cases hle : n ≤ b.length
    · have h1 : (n : Int) ≤ (s.size : Int) := by omega
      have f0 := hb.free 0
      go_enter Tryz.func68, Tryz.ntmps68
      go_wp2_with fail
      go_ret
      have e1 : takeM (some b) n = (b.take n, some (b.drop n)) := if_pos hle
      rw [e1]
      refine ⟨⟨_, rfl, by rw [ext_take, hs]⟩, ⟨by rw [List.length_drop]; omega, _, ?_, hb.set 0 _⟩, set_grown⟩
      rw [← hsz, ext_drop, hs]
    · have h1 : ¬ (n : Int) ≤ (s.size : Int) := by omega
      have e1 : takeM (some b) n = ([], none) := if_neg hle
      rw [e1]
      go_enter Tryz.func68, Tryz.ntmps68
      go_wp2_with fail
      refine (fail_any S g (some b) _ w HR.out (.inl rfl)).mono ?_
      rintro e w1 ⟨rfl, hR1, hg1⟩
      have HR1 := Lib.hid hR1
      obtain ⟨e2, he2, hb2⟩ := hR1
      obtain ⟨t2, v2, rfl⟩ := errP_nil he2
      have d0 := hb2.cell 0
      have d1 := hb2.cell 1
      go_wp2_with fail
      go_ret
      exact ⟨⟨_, rfl, rfl⟩, HR1.out, hg1⟩

set_option maxRecDepth 100000 in
theorem next_any (S : Addr) (g : Nat) (st : Rest) (w : World) (hL : LaidS S w) (hR : RdrP S w g st) :
    Calls Tryz.prog 66 #[.pointer (some ⟨g, 0, none⟩)] w fun e w' => e = .returned (.int .u8 ((nextM st).1.toNat : Int)) ∧ RdrP S w' g (nextM st).2 ∧ w.grownBy w' (some g) := by
  have hT := take_any S g st 1 w hL hR (by omega)
  have hcase : (∃ c t, st = some (c :: t)) ∨ (takeM st 1 = ([], none) ∧ nextM st = (0, none)) := by
    cases st with
    | none => exact .inr ⟨rfl, rfl⟩
    | some b =>
      cases b with
      | nil => exact .inr ⟨rfl, rfl⟩
      | cons c t => exact .inl ⟨c, t, rfl⟩
  rcases hcase with ⟨c, t, rfl⟩ | ⟨e1, e2⟩
  · have e1 : takeM (some (c :: t)) 1 = ([c], some t) := by simp [takeM]
    rw [e1] at hT
    show Calls _ _ _ _ fun e w' => e = .returned (.int .u8 (c.toNat : Int)) ∧ RdrP S w' g (some t) ∧ w.grownBy w' (some g)
    go_enter Tryz.func66, Tryz.ntmps66
    go_wp2_with fail
    refine hT.mono ?_
    rintro e w1 ⟨⟨s, rfl, hs⟩, hR1, hg1⟩
    have hs' : s.data = #[c] := Array.toList_inj.1 (by rw [hs])
    obtain ⟨d⟩ := s
    simp only at hs'
    subst hs'
    go_wp2_with fail
    go_ret
    exact ⟨rfl, hR1, hg1⟩
  · rw [e1] at hT
    rw [e2]
    go_enter Tryz.func66, Tryz.ntmps66
    go_wp2_with fail
    refine hT.mono ?_
    rintro e w1 ⟨⟨s, rfl, hs⟩, hR1, hg1⟩
    have hs' : s.data = #[] := Array.toList_inj.1 (by rw [hs])
    obtain ⟨d⟩ := s
    simp only at hs'
    subst hs'
    go_wp2_with fail
    go_ret
    exact ⟨rfl, hR1, hg1⟩
end Go.Proofs.YtpjleeeligahaaaGreatDoor
