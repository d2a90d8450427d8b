/-
  WHAT IS PROVED: words for bytes that are put behind others (own work): a slice with no spare room, or a row that the call owns; append of bytes onto such. Over any program that bears the types named. · the document's bytes of numbers, ints, texts and flags (spinneyref05), for all. Conditions: those typed in each theorem. · package pack's own calls that put numbers, ints and texts behind other bytes (own, putNumber, folded, putInt, putText): the document's bytes. Conditions: those typed in each theorem. · small lemmas by which a block of cells stays known in a world that only grows (own work, over any program). · the document's bytes of good values (spinneyref05.Value). Conditions: those typed in the theorem. · the document's Good of values, named goodB here, for every value. No condition. · plain facts on how a text is quoted. No program. No condition. · plain facts on keys: which texts of bytes are keys. No program. No condition. · deed.Key and the document's Key answer the same bool, named keyB, for every text. Condition: the text is no longer than the form's reach. · the document's Good of operations, named opB, for every operation. Condition: the texts are no longer than the form's reach.
-/
import Derived.Test.YtnlnbgcmmlpniaaGreatDoorM0
import Derived.IntWalk
import Derived.Lib.AppendStr
import Derived.Test.YtnlnbgcmmlpniaaGreatDoorShelf
import Derived.Lib.Bytealg
import Derived.Lib.Hide
import Derived.Lib.OthersKept
import Derived.Laws.RangeAny
namespace Go.Proofs.YtnlnbgcmmlpniaaGreatDoor
open Go.RowKit

/-- Bytes onto which more may be put: a row of the call's own, or a slice with no spare room. -/
def PreB (base : Nat) (W : World) (A : Option Addr) (n c : Nat) (l : List UInt8) : Prop := OwnB base W A n c l ∨ (RdB W.heap.size W A l ∧ l.length = n ∧ c = n ∧ n ≤ 1000000)
theorem PreB.len {base : Nat} {W : World} {A : Option Addr} {n c : Nat} {l : List UInt8} (h : PreB base W A n c l) : l.length = n := by
  rcases h with h | h
  · exact h.len
  · exact h.2.1
theorem PreB.keep {base : Nat} {W W' : World} {A : Option Addr} {n c : Nat} {l : List UInt8} (h : PreB base W A n c l) (hb : Below W.heap.size W W') : PreB base W' A n c l := by
  rcases h with h | h
  · exact .inl (h.keep hb)
  · exact .inr ⟨(h.1.keep hb (Nat.le_refl _)).more hb.size, h.2⟩
/-- All blocks that aren't bytes stay. -/
def Oth (w w' : World) : Prop := ∀ (g : Nat) (cs : Array Value) (t : TypeId), t ≠ 5 → w.heap[g]? = some (.cells cs t) → w'.heap[g]? = some (.cells cs t)
theorem Oth.refl (w : World) : Oth w w := fun _ _ _ _ h => h
theorem Oth.trans {w w1 w2 : World} (h : Oth w w1) (k : Oth w1 w2) : Oth w w2 := fun g cs t ht hg => k g cs t ht (h g cs t ht hg)
theorem Oth.below {w w' : World} (h : Below w.heap.size w w') : Oth w w' := fun g _ _ _ hg => (h.block g (Array.getElem?_eq_some_iff.1 hg).1).trans hg
theorem Oth.own {base : Nat} {w w' : World} {A : Option Addr} {n c : Nat} {l : List UInt8} (h : OwnB base w A n c l) (hg : w.grownBy w' (A.map (·.block))) : Oth w w' := by
  intro g cs t ht hcs
  have hlt := (Array.getElem?_eq_some_iff.1 hcs).1
  refine (hg.block g hlt ?_).trans hcs
  intro hrow
  rcases h.2 with ⟨hv, _⟩ | ⟨b, cap, cur, hv, _, hb, _⟩
  · injection hv with hv
    subst hv
    cases hrow
  · injection hv with hv
    subst hv
    injection hrow with hrow
    have e : g = b := hrow
    subst e
    rw [hb] at hcs
    injection hcs with hcs
    injection hcs with _ hcs _
    exact ht hcs.symm
/-- What such a call answers. -/
def PutO (base : Nat) (w : World) (L : List UInt8) (e : Ending) (w' : World) : Prop :=
  (∃ (A : Option Addr) (n c : Nat), e = .returned (.slice A n c) ∧ OwnB base w' A n c L) ∧ Below base w w' ∧ Oth w w'

theorem rd_cells {B : Nat} {w : World} {ad : Addr} {l : List UInt8} (hr : RdB B w (some ad) l) : ∀ j u, (bytV l)[j]? = some u → w.cell? (ad.add j) = some u := by
  intro j u hu
  rw [List.getElem?_map] at hu
  cases hx : l[j]? with
  | none => rw [hx] at hu; cases hu
  | some x =>
    rw [hx] at hu
    injection hu with hu
    subst hu
    obtain ⟨a2, he, _, hcell⟩ := hr j x hx
    injection he with he
    subst he
    exact hcell
/-- Append of what reads as bytes, some at least, onto such. -/
theorem run_apP {P : Program} (w : World) {t t' e' ty : TypeId} {i : TypeInfo} (ht : P.underlying t = some (.slice 5)) (ht' : P.underlying t' = some (.slice e')) (hi : P.info? 5 = some i) (hz : i.zero = some (.int .u8 0)) (hs : i.size = 1) (hy : i.bytes = 1)
    {base B : Nat} {A A2 : Option Addr} {n c m d : Nat} {l l2 : List UInt8} (hown : PreB base w A n c l) (hr : RdB B w A2 l2) (hm : l2.length = m) (hm0 : 0 < m) (hsz : n + m ≤ 1099511627776) (hbase : base ≤ w.heap.size) :
    ∃ A' c' w', (Builtin.append_ #[t, t'] ty #[.slice A n c, .slice A2 m d]).run P w = .ok (.slice A' (n + m) c') w' ∧ OwnB base w' A' (n + m) c' (l ++ l2) ∧ Below base w w' ∧ Oth w w' := by
  rcases hown with hown | ⟨hrd, hl, hc, hn⟩
  · obtain ⟨A', c', w', h1, h2, h3, h4⟩ := run_apB (P := P) (ty := ty) (d := d) w ht ht' hi hz hs hy hown hr hm hsz hbase
    exact ⟨A', c', w', h1, h2, h3, Oth.own hown h4⟩
  · subst hm
    subst hc
    subst hl
    cases A2 with
    | none =>
      cases l2 with
      | nil => exact absurd hm0 (by simp)
      | cons x r =>
        obtain ⟨ad, he, _⟩ := hr 0 x rfl
        cases he
    | some a2 =>
      cases A with
      | none =>
        have h0 : l = [] := by
          cases l with
          | nil => rfl
          | cons x r =>
            obtain ⟨ad, he, _⟩ := hrd 0 x rfl
            cases he
        subst h0
        obtain ⟨A', c', w', h1, h2, h3, h4⟩ := run_apB (P := P) (ty := ty) (d := d) w ht ht' hi hz hs hy (OwnB.nil base w) hr rfl hsz hbase
        exact ⟨A', c', w', h1, h2, h3, Oth.own (OwnB.nil base w) h4⟩
      | some ad =>
        have hrun := run_append_grow (P := P) w t ty 5 i (.int .u8 0) ht hi hz ad l.length l.length (bytV l) (by rw [hs]; simp) (rd_cells hrd) a2 l2.length d (bytV l2) (by rw [hs]; simp) (rd_cells hr) (by omega) (by omega) (growslice_fits (by omega) (by rw [hy]; omega))
        refine ⟨_, _, _, by rw [run_append_tt w ht ht']; exact hrun, ?_, ?_, Oth.below ((Below.refl _ w).drew.alloc (Nat.le_refl _) _)⟩
        · have hge := grownCap_ge w (l.length + l2.length) l.length 5
          have hcm : grownCap w (l.length + l2.length) l.length 5 ≤ maxLen := grownCap_le_maxLen w (l.length + l2.length) l.length 5 (by unfold maxLen; omega)
          have hzs : (Value.int IntKind.u8 0).cells.size = 1 := rfl
          unfold OwnB
          rw [show bytV (l ++ l2) = bytV l ++ bytV l2 from List.map_append]
          refine ⟨by simp, .inr ⟨w.heap.size, _, _, rfl, hbase, heap_alloc_new w.drew _, hge, hcm, ?_, ?_⟩⟩
          · simp only [Array.size_append, List.size_toArray, size_zeroCells, hzs, List.length_map]
            omega
          · simp only [Array.toList_append, List.append_assoc]
            rw [← List.append_assoc, show (l.length + l2.length) * 1 = (bytV l ++ bytV l2).length by simp]
            exact List.take_left
        · exact ((Below.refl base w).drew).alloc hbase _
section
variable {P : Program} {w : World} {t t' e' : TypeId} {i : TypeInfo} {base B : Nat} {A A2 : Option Addr} {n c m d : Nat} {l l2 : List UInt8} {o : Oper} {a : Act} {Q : Exit → Act → World → Prop} {ops : Array Oper}
theorem wp_apP {K : Act → World → Prop} (s x : Operand) (ho : o.op = .call { callee := .builtin .append, args := #[s, x], argTypes := #[t, t'] })
    (ht : P.underlying t = some (.slice 5)) (ht' : P.underlying t' = some (.slice e')) (hi : P.info? 5 = some i) (hz : i.zero = some (.int .u8 0)) (hs : i.size = 1) (hy : i.bytes = 1)
    (h1 : a.eval s = .slice A n c) (h2 : a.eval x = .slice A2 m d) (hown : PreB base w A n c l) (hr : RdB B w A2 l2) (hm : l2.length = m) (hm0 : 0 < m) (N : Nat) (hN : n + m = N) (hsz : n + m ≤ 1099511627776) (hbase : base ≤ w.heap.size)
    (h : ∀ A' c' w', OwnB base w' A' N c' (l ++ l2) → Below base w w' → Oth w w' → K (a.put o.dst (.slice A' N c')) w') : o.wp P a w K Q := by
  subst hN
  obtain ⟨A', c', w', hrun, k1, k2, k3⟩ := run_apP (P := P) (ty := o.type) (d := d) w ht ht' hi hz hs hy hown hr hm hm0 hsz hbase
  unfold Oper.wp execOp
  simp only [ho, resolve, invoke, builtin, Sem.run_bind, Sem.run_pure, Result.andThen_ok, List.map_toArray, List.map_cons, List.map_nil, h1, h2, hrun]
  exact h A' c' w' k1 k2 k3
/-- .. in a plain region. -/
theorem wpList_apP {rest : List Oper} (hgd : o.guard = none) (s x : Operand) (ho : o.op = .call { callee := .builtin .append, args := #[s, x], argTypes := #[t, t'] })
    (ht : P.underlying t = some (.slice 5)) (ht' : P.underlying t' = some (.slice e')) (hi : P.info? 5 = some i) (hz : i.zero = some (.int .u8 0)) (hs : i.size = 1) (hy : i.bytes = 1)
    (h1 : a.eval s = .slice A n c) (h2 : a.eval x = .slice A2 m d) (hown : PreB base w A n c l) (hr : RdB B w A2 l2) (hm : l2.length = m) (hm0 : 0 < m) (N : Nat) (hN : n + m = N) (hsz : n + m ≤ 1099511627776) (hbase : base ≤ w.heap.size)
    (h : ∀ A' c' w', OwnB base w' A' N c' (l ++ l2) → Below base w w' → Oth w w' → wpList P ops Q rest (a.put o.dst (.slice A' N c')) w') : wpList P ops Q (o :: rest) a w :=
  wpList_plain hgd fun _ hK => wp_apP s x ho ht ht' hi hz hs hy h1 h2 hown hr hm hm0 N hN hsz hbase fun A' c' w' k1 k2 k3 => hK _ _ (h A' c' w' k1 k2 k3)
end
/-- A slice without its spare room. -/
theorem run_cap (W : World) (A : Option Addr) (n c : Nat) (y z : Int) (hy : y = (n : Int)) (hz : z = (n : Int)) (hc : n ≤ c) :
    (Instr.sliceAt 29 (.slice A n c) none (some (.int .i64 y)) (some (.int .i64 z))).run Tryz.prog W = .ok (.slice A n n) W := by
  have h2 : (n : Int) ≤ (c : Int) := by omega
  rw [hy, hz]
  go_simp
end Go.Proofs.YtnlnbgcmmlpniaaGreatDoor

namespace Go.Proofs.YtnlnbgcmmlpniaaGreatDoor
open Go.RowKit

/-- A row of bytes that a call answered. -/
def PutP (w : World) (l : List UInt8) (e : Ending) (w' : World) : Prop :=
  (∃ (A : Option Addr) (n c : Nat), e = .returned (.slice A n c) ∧ OwnB w.heap.size w' A n c l) ∧ Below w.heap.size w w'

/-- One byte in a row of its own. -/
theorem litB (w : World) {base : Nat} (z : Int) (c : UInt8) (h : z = (c.toNat : Int)) (hb : base ≤ w.heap.size) : OwnB base (w.alloc (.cells #[.int .u8 z] 5)) (some ⟨w.heap.size, 0, none⟩) 1 1 [c] := by
  subst h
  exact OwnB.lit w #[.int .u8 (c.toNat : Int)] [c] rfl rfl hb (by unfold maxLen; omega)
theorem mod_byte (v : Nat) : (v : Int) % 256 = ((UInt8.ofNat (v % 256)).toNat : Int) := by
  rw [toNat_mod]
  omega

theorem wrap_quo {v n : Nat} (hv : v ≤ n) (hn : n < 18446744073709551616) : IntKind.u64.wrap ((v : Int) / 256) = ((v / 256 : Nat) : Int) := by
  rw [IntKind.wrap_u64]
  omega

set_option maxRecDepth 100000 in
set_option maxHeartbeats 1000000 in
theorem refNumber_any (n : Nat) (w : World) (hn : n < 18446744073709551616) :
    Calls Tryz.prog 49 #[.int .u64 n] w fun e w' => PutP w (numB n) e w' := by
  obtain ⟨i0, hi0, hz0, hz1, hz2⟩ := info_parts byt_info
  have h8 := beB_eight hn
  have H8 := Lib.hid h8
  have HN := Lib.hid hn
  clear h8 hn
  go_enter Tryz.func49, Tryz.ntmps49
  go_wp2_with fail
  go_loopw [0, 3] (fun t u wr => ∃ (v : Nat) (A : Option Addr) (k c : Nat) (l : List UInt8), t = .int .u64 v ∧ u = .slice A k c ∧ v ≤ n ∧ OwnB w.heap.size wr A k c l ∧ Hid (beB n = beB v ++ l) ∧ Below w.heap.size w wr) (fun t _ _ => (intOf t).toNat)
  case atStart => exact ⟨n, none, 0, 0, [], rfl, rfl, Nat.le_refl _, OwnB.nil _ _, by simp [Hid], Below.refl _ _⟩
  case round =>
    obtain ⟨v, A, k, c, l, rfl, rfl, hv, hO, hL, hB⟩ := hrel
    have hk := hO.len
    have hk8 : k ≤ 8 := by
      have h1 := congrArg List.length hL.out
      rw [List.length_append, hk] at h1
      have := H8.out
      omega
    have HK := Lib.hid hk
    clear hk
    by_cases h0 : v = 0
    · have g0 : decide (0 < v) = false := by simp; omega
      have HL : Hid (numB n = UInt8.ofNat k :: l) := by
        have h1 := hL.out
        rw [h0, beB_zero, List.nil_append] at h1
        show _ = _
        unfold numB
        rw [h1, HK.out]
      have hz : (k : Int) = ((UInt8.ofNat k).toNat : Int) := by rw [UInt8.toNat_ofNat']; omega
      have hown := litB wr (base := w.heap.size) (k : Int) (UInt8.ofNat k) hz hB.size
      have hrd := hO.rd.keep (b0 wr (.cells #[.int .u8 (k : Int)] 5)) (Nat.le_refl _)
      have hB2 := hB.alloc hB.size (.cells #[.int .u8 (k : Int)] 5)
      have q1 : (k : Int) ≤ 8 := by omega
      have q2 : (0 : Int) ≤ (k : Int) := by omega
      have HZ := Lib.hid hz
      clear h0 hz
      go_wp2_with (at_builtin; refine wpList_apB (base := w.heap.size) (n := 1) (m := k) (l := [UInt8.ofNat k]) (l2 := l) (by rfl) _ _ (by rfl) Tryz.underlying29 Tryz.underlying29 hi0 hz0 hz1 hz2 (by rfl) (by rfl) hown hrd HK.out (1 + k) rfl (by omega) hB2.size ?_; intro A5 c5 w5 hO5 hb5 hg5)
      go_ret
      exact ⟨⟨A5, 1 + k, c5, rfl, by rw [HL.out]; exact hO5⟩, hB2.trans hb5⟩
    · have g0 : (0 : Int) < (v : Int) := by omega
      have HL : Hid (beB n = beB (v / 256) ++ ([UInt8.ofNat (v % 256)] ++ l)) := by
        show _ = _
        rw [hL.out, beB_pos h0, List.append_assoc]
      have HQ := Lib.hid (wrap_quo hv HN.out)
      have hown := litB wr (base := w.heap.size) ((v : Int) % 256) (UInt8.ofNat (v % 256)) (mod_byte v) hB.size
      have hrd := hO.rd.keep (b0 wr (.cells #[.int .u8 ((v : Int) % 256)] 5)) (Nat.le_refl _)
      have hB2 := hB.alloc hB.size (.cells #[.int .u8 ((v : Int) % 256)] 5)
      go_wp2_with (at_builtin; refine wpList_apB (base := w.heap.size) (n := 1) (m := k) (l := [UInt8.ofNat (v % 256)]) (l2 := l) (by rfl) _ _ (by rfl) Tryz.underlying29 Tryz.underlying29 hi0 hz0 hz1 hz2 (by rfl) (by rfl) hown hrd HK.out (1 + k) rfl (by omega) hB2.size ?_; intro A5 c5 w5 hO5 hb5 hg5)
      go_roundw
      case rel => exact ⟨v / 256, A5, 1 + k, c5, [UInt8.ofNat (v % 256)] ++ l, by rw [HQ.out], rfl, by omega, hO5, HL, hB2.trans hb5⟩
      case measure => simp only [intOf, HQ.out]; omega

theorem zig_neg {n : Int} (h : n < 0) (h0 : -9223372036854775808 ≤ n) : IntKind.u64.wrap (IntKind.u64.wrap (2 * IntKind.u64.wrap (-IntKind.u64.wrap n)) - 1) = ((zig n : Nat) : Int) := by
  unfold zig
  rw [if_pos h]
  simp only [IntKind.wrap_u64]
  omega
theorem zig_pos {n : Int} (h : ¬ n < 0) (h1 : n ≤ 9223372036854775807) : IntKind.u64.wrap (2 * IntKind.u64.wrap n) = ((zig n : Nat) : Int) := by
  unfold zig
  rw [if_neg h]
  simp only [IntKind.wrap_u64]
  omega

set_option maxRecDepth 100000 in
set_option maxHeartbeats 1000000 in
theorem refPInt_any (n : Int) (w : World) (h0 : -9223372036854775808 ≤ n) (h1 : n ≤ 9223372036854775807) :
    Calls Tryz.prog 135 #[.int .i64 n] w fun e w' => PutP w (numB (zig n)) e w' := by
  have HZ := Lib.hid (zig_lt h0 h1)
  by_cases hn : n < 0
  · have HE := Lib.hid (zig_neg hn h0)
    clear h0 h1
    go_enter Tryz.func135, Tryz.ntmps135
    go_wp2_with fail
    rw [HE.out]
    refine (refNumber_any _ w HZ.out).mono ?_
    rintro e w1 ⟨⟨A, m, c, rfl, hO⟩, hb⟩
    go_wp2_with fail
    go_ret
    exact ⟨⟨A, m, c, rfl, hO⟩, hb⟩
  · have HE := Lib.hid (zig_pos hn h1)
    clear h0 h1
    go_enter Tryz.func135, Tryz.ntmps135
    go_wp2_with fail
    rw [HE.out]
    refine (refNumber_any _ w HZ.out).mono ?_
    rintro e w1 ⟨⟨A, m, c, rfl, hO⟩, hb⟩
    go_wp2_with fail
    go_ret
    exact ⟨⟨A, m, c, rfl, hO⟩, hb⟩

theorem strCells_is (s : ByteArray) : Lib.strCells s = bytV s.data.toList := rfl
section
variable {P : Program} {w : World} {t u : TypeId} {i : TypeInfo} {base : Nat} {A : Option Addr} {n c : Nat} {l : List UInt8} {o : Oper} {a : Act} {Q : Exit → Act → World → Prop} {ops : Array Oper}
theorem run_apT {ty : TypeId} (ht : P.underlying t = some (.slice 5)) (hu : P.underlying u = some .string) (hi : P.info? 5 = some i) (hz : i.zero = some (.int .u8 0)) (hs : i.size = 1) (hy : i.bytes = 1)
    (hown : OwnB base w A n c l) (s : ByteArray) (hsz : n + s.size ≤ 1099511627776) (hbase : base ≤ w.heap.size) :
    ∃ A' c' w', (Builtin.append_ #[t, u] ty #[.slice A n c, .string s]).run P w = .ok (.slice A' (n + s.size) c') w' ∧ OwnB base w' A' (n + s.size) c' (l ++ s.data.toList) ∧ Below base w w' ∧ w.grownBy w' (A.map (·.block)) := by
  obtain ⟨v', w', hrun, h2, h3, _⟩ := Lib.run_append_own_string (P := P) w base t u ty 5 i ht hu hi hz hs hy (.slice A n c) n (bytV l) hown s (by unfold maxLen; omega) (by omega) hbase
  have hb : Below base w w' := (Below.refl base w).grown h3 hbase (fun k hk => (World.ownsRow.lt hown k hk).1)
  have hv : ∃ A' c', v' = .slice A' (n + s.size) c' := by
    rcases h2.2 with ⟨e1, e2⟩ | ⟨g, cap, cur, e1, _⟩
    · exact ⟨none, 0, by rw [e1, e2]⟩
    · exact ⟨_, _, e1⟩
  obtain ⟨A', c', rfl⟩ := hv
  refine ⟨A', c', w', hrun, ?_, hb, by cases A <;> exact h3⟩
  unfold OwnB
  rw [show bytV (l ++ s.data.toList) = bytV l ++ bytV s.data.toList from List.map_append]
  exact h2
theorem wp_apT {K : Act → World → Prop} (sl x : Operand) (ho : o.op = .call { callee := .builtin .append, args := #[sl, x], argTypes := #[t, u] })
    (ht : P.underlying t = some (.slice 5)) (hu : P.underlying u = some .string) (hi : P.info? 5 = some i) (hz : i.zero = some (.int .u8 0)) (hs : i.size = 1) (hy : i.bytes = 1) (s : ByteArray)
    (h1 : a.eval sl = .slice A n c) (h2 : a.eval x = .string s) (hown : OwnB base w A n c l) (N : Nat) (hN : n + s.size = N) (hsz : n + s.size ≤ 1099511627776) (hbase : base ≤ w.heap.size)
    (h : ∀ A' c' w', OwnB base w' A' N c' (l ++ s.data.toList) → Below base w w' → w.grownBy w' (A.map (·.block)) → K (a.put o.dst (.slice A' N c')) w') : o.wp P a w K Q := by
  subst hN
  obtain ⟨A', c', w', hrun, k1, k2, k3⟩ := run_apT (P := P) (ty := o.type) (w := w) ht hu hi hz hs hy hown s hsz hbase
  unfold Oper.wp execOp
  simp only [ho, resolve, invoke, builtin, Sem.run_bind, Sem.run_pure, Result.andThen_ok, List.map_toArray, List.map_cons, List.map_nil, h1, h2, hrun]
  exact h A' c' w' k1 k2 k3
theorem wpList_apT {rest : List Oper} (hgd : o.guard = none) (sl x : Operand) (ho : o.op = .call { callee := .builtin .append, args := #[sl, x], argTypes := #[t, u] })
    (ht : P.underlying t = some (.slice 5)) (hu : P.underlying u = some .string) (hi : P.info? 5 = some i) (hz : i.zero = some (.int .u8 0)) (hs : i.size = 1) (hy : i.bytes = 1) (s : ByteArray)
    (h1 : a.eval sl = .slice A n c) (h2 : a.eval x = .string s) (hown : OwnB base w A n c l) (N : Nat) (hN : n + s.size = N) (hsz : n + s.size ≤ 1099511627776) (hbase : base ≤ w.heap.size)
    (h : ∀ A' c' w', OwnB base w' A' N c' (l ++ s.data.toList) → Below base w w' → w.grownBy w' (A.map (·.block)) → wpList P ops Q rest (a.put o.dst (.slice A' N c')) w') : wpList P ops Q (o :: rest) a w :=
  wpList_plain hgd fun _ hK => wp_apT sl x ho ht hu hi hz hs hy s h1 h2 hown N hN hsz hbase fun A' c' w' k1 k2 k3 => hK _ _ (h A' c' w' k1 k2 k3)
end

theorem numB_small {n : Nat} (h : n < 18446744073709551616) : (numB n).length ≤ 9 := by
  have := beB_eight h
  rw [numB_len]
  omega
theorem wrap_size {n : Nat} (h : n ≤ 1099511627776) : IntKind.u64.wrap (n : Int) = (n : Int) := by
  rw [IntKind.wrap_u64]
  omega

set_option maxRecDepth 100000 in
set_option maxHeartbeats 1000000 in
theorem refPText_any (s : ByteArray) (w : World) (hs : s.size ≤ 1000000) :
    Calls Tryz.prog 50 #[.string s] w fun e w' => PutP w (textB s.data.toList) e w' := by
  obtain ⟨i0, hi0, hz0, hz1, hz2⟩ := info_parts byt_info
  have hl : s.data.toList.length = s.size := Array.length_toList
  have HL := Lib.hid hl
  clear hl
  have s0 : (0 : Int) ≤ (s.size : Int) := by omega
  have s1 : (s.size : Int) ≤ 1000000 := by omega
  go_enter Tryz.func50, Tryz.ntmps50
  go_wp2_with fail
  refine (refNumber_any s.size w (by omega)).mono ?_
  rintro e w1 ⟨⟨A, m, c, rfl, hO⟩, hb⟩
  have hm := numB_small (n := s.size) (by omega)
  have hk := hO.len
  have hm2 : m ≤ 9 := by omega
  clear hm hk
  go_wp2_with (at_builtin; refine wpList_apT (base := w.heap.size) (n := m) (l := numB s.size) (by rfl) _ _ (by rfl) Tryz.underlying29 Tryz.underlying9 hi0 hz0 hz1 hz2 s (by rfl) (by rfl) hO (m + s.size) rfl (by omega) hb.size ?_; intro A5 c5 w5 hO5 hb5 hg5)
  go_ret
  refine ⟨⟨A5, m + s.size, c5, rfl, ?_⟩, hb.trans hb5⟩
  unfold textB
  rw [HL.out]
  exact hO5
end Go.Proofs.YtnlnbgcmmlpniaaGreatDoor

namespace Go.Proofs.YtnlnbgcmmlpniaaGreatDoor
open Go.RowKit

set_option maxRecDepth 100000 in
/-- A slice that is handed in, without its spare room. -/
theorem own_any (A : Option Addr) (n c : Nat) (w : World) (hc : n ≤ c) :
    Calls Tryz.prog 80 #[.slice A n c] w fun e w' => e = .returned (.slice A n n) ∧ w' = w := by
  go_enter Tryz.func80, Tryz.ntmps80
  go_wp2_with fail
  go_ret
  exact ⟨rfl, rfl⟩

theorem shift_byte (x i : Nat) : (x : Int) / 2 ^ (8 * i) % 256 = ((UInt8.ofNat (x / 256 ^ i % 256)).toNat : Int) := by
  rw [toNat_mod, ← pow_shift, Int.natCast_emod, Int.natCast_ediv, Int.natCast_pow]
  rfl

set_option maxRecDepth 100000 in
set_option maxHeartbeats 2000000 in
theorem putNumber_any (base : Nat) (A : Option Addr) (n c : Nat) (l : List UInt8) (x : Nat) (w : World) (hp : PreB base w A n c l) (hb : base ≤ w.heap.size) (hm : n ≤ 100000000000) (hx : x < 18446744073709551616) :
    Calls Tryz.prog 117 #[.slice A n c, .int .u64 x] w fun e w' => PutO base w (l ++ numB x) e w' := by
  obtain ⟨i0, hi0, hz0, hz1, hz2⟩ := info_parts byt_info
  have h8 := beB_eight hx
  have hbits := bits_bytes x hx
  have hbl : Lib.bitLen x ≤ 64 := Lib.bitLen_le x 64 (Nat.le_refl _) hx
  have HX := Lib.hid hx
  go_enter Tryz.func117, Tryz.ntmps117
  go_wp2_with fail
  refine (Tryz.bits_Len64 x w (by omega) (by omega)).mono ?_
  rintro e w1 ⟨rfl, rfl⟩
  have hK : ((Lib.bitLen x : Int) + 7) / 8 = ((beB x).length : Int) := by omega
  have HB := Lib.hid (show (l ++ [UInt8.ofNat (beB x).length]) ++ beB x = l ++ numB x by unfold numB; simp)
  generalize hk : (beB x).length = k at h8 hbits hK HB
  have HK := Lib.hid hk
  have hz : (k : Int) = ((UInt8.ofNat k).toNat : Int) := by rw [UInt8.toNat_ofNat']; omega
  have hp2 := hp.keep (b0 w1 (.cells #[.int .u8 (k : Int)] 5))
  have hb2 := (Below.refl base w1).alloc hb (.cells #[.int .u8 (k : Int)] 5)
  have hr2 := (litB w1 (base := base) (k : Int) (UInt8.ofNat k) hz hb).rd
  have hbase2 := hb2.size
  have hl := hp.len
  clear hk hbits hz
  go_wp2_with (at_builtin; refine wpList_apP (base := base) (n := n) (m := 1) (l := l) (l2 := [UInt8.ofNat k]) (by rfl) _ _ (by rfl) Tryz.underlying29 Tryz.underlying29 hi0 hz0 hz1 hz2 (by rfl) (by rfl) hp2 hr2 rfl (by omega) (n + 1) rfl (by omega) (Nat.le_trans hb hbase2) ?_; intro A5 c5 w5 hO5 hb5 ho5)
  have hB5 := hb2.trans hb5
  have hT5 := (Oth.below (b0 w1 (.cells #[.int .u8 (k : Int)] 5))).trans ho5
  go_loopw [0, 6] (fun b i wr => ∃ (j : Nat) (A3 : Option Addr) (n3 c3 : Nat), j ≤ k ∧ b = .slice A3 n3 c3 ∧ i = .int .i64 ((k : Int) - 1 - (j : Int)) ∧ OwnB base wr A3 n3 c3 (l ++ [UInt8.ofNat k] ++ (beB x).take j) ∧ Below base w1 wr ∧ Oth w1 wr) (fun _ i _ => (intOf i + 1).toNat)
  case atStart => exact ⟨0, A5, n + 1, c5, Nat.zero_le _, rfl, by go_num, by simpa using hO5, hB5, hT5⟩
  case round =>
    clear hO5 hb5 hp2 hb2 hr2 hbase2 hp
    obtain ⟨j, A3, n3, c3, hj, rfl, rfl, hO, hB, hT⟩ := hrel
    by_cases hlt : j < k
    · have hl2 := hO.len
      have i1 : (0 : Int) ≤ (k : Int) - 1 - (j : Int) := by omega
      have i2 : (k : Int) - 1 - (j : Int) < 8 := by omega
      have i3 : (j : Int) ≤ (k : Int) - 1 := by omega
      have hq := shift_byte x (k - 1 - j)
      have hg : (beB x)[j]? = some (UInt8.ofNat (x / 256 ^ (k - 1 - j) % 256)) := by
        have := beB_get x j (by have := HK.out; omega)
        rw [HK.out] at this
        exact this
      have HE := Lib.hid (show l ++ [UInt8.ofNat k] ++ (beB x).take j ++ [UInt8.ofNat (x / 256 ^ (k - 1 - j) % 256)] = l ++ [UInt8.ofNat k] ++ (beB x).take (j + 1) by rw [List.take_add_one, hg]; simp)
      have hown := litB wr (base := base) _ _ hq (Nat.le_trans hb hB.size)
      have hO2 := hO.keep (b0 wr (.cells #[.int .u8 ((x : Int) / 2 ^ (8 * (k - 1 - j)) % 256)] 5))
      have hB2 := hB.alloc (Nat.le_trans hb hB.size) (.cells #[.int .u8 ((x : Int) / 2 ^ (8 * (k - 1 - j)) % 256)] 5)
      have hT2 := hT.trans (Oth.below (b0 wr (.cells #[.int .u8 ((x : Int) / 2 ^ (8 * (k - 1 - j)) % 256)] 5)))
      have hn3 : n3 ≤ 100000000000 + 10 := by rw [← hl2]; simp; omega
      have HQ := Lib.hid hq
      clear hq hg hO hl2
      go_wp2_with (at_builtin; refine wpList_apB (base := base) (n := n3) (m := 1) (l := l ++ [UInt8.ofNat k] ++ (beB x).take j) (l2 := [UInt8.ofNat (x / 256 ^ (k - 1 - j) % 256)]) (by rfl) _ _ (by rfl) Tryz.underlying29 Tryz.underlying29 hi0 hz0 hz1 hz2 (by rfl) (by rfl) hO2 hown.rd rfl (n3 + 1) rfl (by omega) (Nat.le_trans hb hB2.size) ?_; intro A6 c6 w6 hO6 hb6 hg6)
      rw [HE.out] at hO6
      have hT6 := hT2.trans (Oth.own hO2 hg6)
      go_roundw
      case rel => exact ⟨j + 1, A6, n3 + 1, c6, by omega, rfl, by go_num, hO6, hB2.trans hb6, hT6⟩
      case measure => simp [intOf]; omega
    · have i1 : ¬ (0 : Int) ≤ (k : Int) - 1 - (j : Int) := by omega
      have e : (beB x).take j = beB x := List.take_of_length_le (by have := HK.out; omega)
      rw [e, HB.out] at hO
      go_wp2_with fail
      go_ret
      exact ⟨⟨A3, n3, c3, rfl, hO⟩, hB, hT⟩

theorem not_any (n : Int) (h0 : -9223372036854775808 ≤ n) (h1 : n ≤ 9223372036854775807) : bits .xor .i64 (-1) n = -1 - n := by
  show IntKind.i64.wrap ((BitVec.ofInt 64 (-1) ^^^ BitVec.ofInt 64 n).toNat : Int) = _
  have e : BitVec.ofInt 64 (-1) = BitVec.allOnes 64 := by decide
  rw [e, BitVec.allOnes_xor, BitVec.toNat_not, BitVec.toNat_ofInt]
  simp [IntKind.wrap, IntKind.bits, IntKind.signed]
  omega
theorem ret_u64 {a b : Int} (h : a = b) : Ending.returned (.int .u64 a) = .returned (.int .u64 b) := by rw [h]
set_option maxRecDepth 100000 in
theorem folded_any (n : Int) (w : World) (h0 : -9223372036854775808 ≤ n) (h1 : n ≤ 9223372036854775807) :
    Calls Tryz.prog 147 #[.int .i64 n] w fun e w' => e = .returned (.int .u64 ((zig n : Nat) : Int)) ∧ w' = w := by
  have H0 := Lib.hid h0
  have H1 := Lib.hid h1
  clear h0 h1
  by_cases hn : n < 0
  · go_enter Tryz.func147, Tryz.ntmps147
    go_wp2_with fail
    go_ret
    refine ⟨ret_u64 ?_, rfl⟩
    have h0 := H0.out
    have h1 := H1.out
    unfold zig
    rw [if_pos hn, not_any n h0 h1]
    simp only [IntKind.wrap_u64]
    omega
  · go_enter Tryz.func147, Tryz.ntmps147
    go_wp2_with fail
    go_ret
    refine ⟨ret_u64 ?_, rfl⟩
    have h0 := H0.out
    have h1 := H1.out
    unfold zig
    rw [if_neg (by omega)]
    simp only [IntKind.wrap_u64]
    omega

set_option maxRecDepth 100000 in
theorem putInt_any (base : Nat) (A : Option Addr) (n c : Nat) (l : List UInt8) (x : Int) (w : World) (hp : PreB base w A n c l) (hb : base ≤ w.heap.size) (hm : n ≤ 100000000000) (h0 : -9223372036854775808 ≤ x) (h1 : x ≤ 9223372036854775807) :
    Calls Tryz.prog 137 #[.slice A n c, .int .i64 x] w fun e w' => PutO base w (l ++ numB (zig x)) e w' := by
  have hf := folded_any x w h0 h1
  have HZ := Lib.hid (zig_lt h0 h1)
  clear h0 h1
  go_enter Tryz.func137, Tryz.ntmps137
  go_wp2_with fail
  refine hf.mono ?_
  rintro e w1 ⟨rfl, rfl⟩
  go_wp2_with fail
  refine (putNumber_any base A n c l (zig x) w1 hp hb hm HZ.out).mono ?_
  rintro e w2 ⟨⟨A2, n2, c2, rfl, hO⟩, hb2, ht2⟩
  go_wp2_with fail
  go_ret
  exact ⟨⟨A2, n2, c2, rfl, hO⟩, hb2, ht2⟩

set_option maxRecDepth 100000 in
theorem putText_any (base : Nat) (A : Option Addr) (n c : Nat) (l : List UInt8) (s : ByteArray) (w : World) (hp : PreB base w A n c l) (hb : base ≤ w.heap.size) (hm : n ≤ 100000000000) (hs : s.size ≤ 100000000000) :
    Calls Tryz.prog 79 #[.slice A n c, .string s] w fun e w' => PutO base w (l ++ textB s.data.toList) e w' := by
  obtain ⟨i0, hi0, hz0, hz1, hz2⟩ := info_parts byt_info
  have HL := Lib.hid (show s.data.toList.length = s.size from Array.length_toList)
  have s0 : (0 : Int) ≤ (s.size : Int) := by omega
  have s1 : (s.size : Int) ≤ 100000000000 := by omega
  have hl := hp.len
  go_enter Tryz.func79, Tryz.ntmps79
  go_wp2_with fail
  refine (putNumber_any base A n c l s.size w hp hb hm (by omega)).mono ?_
  rintro e w2 ⟨⟨A2, n2, c2, rfl, hO⟩, hb2, ht2⟩
  have hn2 : n2 ≤ 100000000000 + 9 := by
    have h1 := hO.len
    have h2 := numB_small (n := s.size) (by omega)
    rw [List.length_append] at h1
    omega
  go_wp2_with (at_builtin; refine wpList_apT (base := base) (n := n2) (l := l ++ numB s.size) (by rfl) _ _ (by rfl) Tryz.underlying29 Tryz.underlying9 hi0 hz0 hz1 hz2 s (by rfl) (by rfl) hO (n2 + s.size) rfl (by omega) (Nat.le_trans hb hb2.size) ?_; intro A5 c5 w5 hO5 hb5 hg5)
  go_ret
  refine ⟨⟨A5, n2 + s.size, c5, rfl, ?_⟩, hb2.trans hb5, ht2.trans (Oth.own hO hg5)⟩
  unfold textB
  rw [HL.out, ← List.append_assoc]
  exact hO5
end Go.Proofs.YtnlnbgcmmlpniaaGreatDoor

namespace Go.Proofs.YtnlnbgcmmlpniaaGreatDoor
open Go.RowKit

/-- A block, whole. -/
def Blk (W : World) (b : Nat) (cs : Array Value) (t : TypeId) : Prop := W.heap[b]? = some (.cells cs t)
theorem Blk.lt {W : World} {b : Nat} {cs : Array Value} {t : TypeId} (h : Blk W b cs t) : b < W.heap.size := (Array.getElem?_eq_some_iff.1 h).1
theorem Blk.keep {W W1 : World} {b : Nat} {cs : Array Value} {t : TypeId} (h : Blk W b cs t) (hb : Below W.heap.size W W1) : Blk W1 b cs t := (hb.block b h.lt).trans h
theorem blk_new (w : World) (cs : Array Value) (t : TypeId) : Blk (w.alloc (.cells cs t)) w.heap.size cs t := by
  show (w.heap.push _)[w.heap.size]? = _
  simp
theorem blk_at {w : World} {b : Nat} (h : b = w.heap.size) (cs : Array Value) (t : TypeId) : Blk (w.alloc (.cells cs t)) b cs t := by
  subst h
  exact blk_new w cs t
theorem Blk.alloc {W : World} {b : Nat} {cs : Array Value} {t : TypeId} (h : Blk W b cs t) (o : Obj) : Blk (W.alloc o) b cs t := h.keep (b0 W o)
theorem Blk.drew {W : World} {b : Nat} {cs : Array Value} {t : TypeId} (h : Blk W b cs t) (n : Nat) : Blk (W.drewN n) b cs t := h
theorem Blk.cell {W : World} {b : Nat} {cs : Array Value} {t : TypeId} (h : Blk W b cs t) (i : Nat) : W.cell? ⟨b, i, none⟩ = cs[i]? := by
  unfold Blk at h
  simp [World.cell?, h]
theorem Blk.free {W : World} {b : Nat} {cs : Array Value} {t : TypeId} (h : Blk W b cs t) (i : Nat) : W.frozen? ⟨b, i, none⟩ = false := by
  unfold Blk at h
  simp [World.frozen?, h]
/-- A value's three cells. -/
theorem Blk.c3 {W : World} {b : Nat} {v0 v1 v2 : Value} {t : TypeId} (h : Blk W b #[v0, v1, v2] t) :
    W.cell? ⟨b, 0, none⟩ = some v0 ∧ W.cell? ⟨b, 1, none⟩ = some v1 ∧ W.cell? ⟨b, 2, none⟩ = some v2 ∧ b < W.heap.size :=
  ⟨h.cell 0, h.cell 1, h.cell 2, h.lt⟩
theorem Blk.f3 {W : World} {b : Nat} {v0 v1 v2 : Value} {t : TypeId} (h : Blk W b #[v0, v1, v2] t) :
    W.frozen? ⟨b, 0, none⟩ = false ∧ W.frozen? ⟨b, 1, none⟩ = false ∧ W.frozen? ⟨b, 2, none⟩ = false :=
  ⟨h.free 0, h.free 1, h.free 2⟩
/-- An operation's eight cells. -/
theorem Blk.c8 {W : World} {b : Nat} {v0 v1 v2 v3 v4 v5 v6 v7 : Value} {t : TypeId} (h : Blk W b #[v0, v1, v2, v3, v4, v5, v6, v7] t) :
    W.cell? ⟨b, 0, none⟩ = some v0 ∧ W.cell? ⟨b, 1, none⟩ = some v1 ∧ W.cell? ⟨b, 2, none⟩ = some v2 ∧ W.cell? ⟨b, 3, none⟩ = some v3 ∧ W.cell? ⟨b, 4, none⟩ = some v4 ∧ W.cell? ⟨b, 5, none⟩ = some v5 ∧ W.cell? ⟨b, 6, none⟩ = some v6 ∧ W.cell? ⟨b, 7, none⟩ = some v7 ∧ b < W.heap.size :=
  ⟨h.cell 0, h.cell 1, h.cell 2, h.cell 3, h.cell 4, h.cell 5, h.cell 6, h.cell 7, h.lt⟩
theorem Blk.f8 {W : World} {b : Nat} {v0 v1 v2 v3 v4 v5 v6 v7 : Value} {t : TypeId} (h : Blk W b #[v0, v1, v2, v3, v4, v5, v6, v7] t) :
    W.frozen? ⟨b, 0, none⟩ = false ∧ W.frozen? ⟨b, 1, none⟩ = false ∧ W.frozen? ⟨b, 2, none⟩ = false ∧ W.frozen? ⟨b, 3, none⟩ = false ∧ W.frozen? ⟨b, 4, none⟩ = false ∧ W.frozen? ⟨b, 5, none⟩ = false ∧ W.frozen? ⟨b, 6, none⟩ = false ∧ W.frozen? ⟨b, 7, none⟩ = false :=
  ⟨h.free 0, h.free 1, h.free 2, h.free 3, h.free 4, h.free 5, h.free 6, h.free 7⟩
theorem below8 {B b : Nat} {w W : World} (h : Below B w W) (hb : B ≤ b) (v0 v1 v2 v3 v4 v5 v6 v7 : Value) : Below B w ((((((((W.setCell ⟨b, 0, none⟩ v0).setCell ⟨b, 1, none⟩ v1).setCell ⟨b, 2, none⟩ v2).setCell ⟨b, 3, none⟩ v3).setCell ⟨b, 4, none⟩ v4).setCell ⟨b, 5, none⟩ v5).setCell ⟨b, 6, none⟩ v6).setCell ⟨b, 7, none⟩ v7) := ((((((((h.setCell (p := ⟨b, 0, none⟩) hb v0).setCell (p := ⟨b, 1, none⟩) hb v1).setCell (p := ⟨b, 2, none⟩) hb v2).setCell (p := ⟨b, 3, none⟩) hb v3).setCell (p := ⟨b, 4, none⟩) hb v4).setCell (p := ⟨b, 5, none⟩) hb v5).setCell (p := ⟨b, 6, none⟩) hb v6).setCell (p := ⟨b, 7, none⟩) hb v7)

/-- A store into a block. -/
theorem Blk.set {W : World} {b : Nat} {cs : Array Value} {t : TypeId} (h : Blk W b cs t) (i : Nat) (v : Value) : Blk (W.setCell ⟨b, i, none⟩ v) b (cs.setIfInBounds i v) t := by
  unfold Blk at h ⊢
  simp [World.setCell, Array.getElem?_modify, h]
/-- .. into another one. -/
theorem Blk.other {W : World} {b : Nat} {cs : Array Value} {t : TypeId} (h : Blk W b cs t) {c : Nat} (hne : b ≠ c) (i : Nat) (v : Value) : Blk (W.setCell ⟨c, i, none⟩ v) b cs t :=
  (Below.heap_setCell W ⟨c, i, none⟩ v b hne).trans h
theorem Blk.other8 {W : World} {b c : Nat} {cs : Array Value} {t : TypeId} (h : Blk W b cs t) (hne : b ≠ c) (v0 v1 v2 v3 v4 v5 v6 v7 : Value) : Blk ((((((((W.setCell ⟨c, 0, none⟩ v0).setCell ⟨c, 1, none⟩ v1).setCell ⟨c, 2, none⟩ v2).setCell ⟨c, 3, none⟩ v3).setCell ⟨c, 4, none⟩ v4).setCell ⟨c, 5, none⟩ v5).setCell ⟨c, 6, none⟩ v6).setCell ⟨c, 7, none⟩ v7) b cs t := ((((((((h.other hne 0 v0).other hne 1 v1).other hne 2 v2).other hne 3 v3).other hne 4 v4).other hne 5 v5).other hne 6 v6).other hne 7 v7)
/-- Six cells. -/
theorem Blk.c6 {W : World} {b : Nat} {v0 v1 v2 v3 v4 v5 : Value} {t : TypeId} (h : Blk W b #[v0, v1, v2, v3, v4, v5] t) :
    W.cell? ⟨b, 0, none⟩ = some v0 ∧ W.cell? ⟨b, 1, none⟩ = some v1 ∧ W.cell? ⟨b, 2, none⟩ = some v2 ∧ W.cell? ⟨b, 3, none⟩ = some v3 ∧ W.cell? ⟨b, 4, none⟩ = some v4 ∧ W.cell? ⟨b, 5, none⟩ = some v5 ∧ b < W.heap.size :=
  ⟨h.cell 0, h.cell 1, h.cell 2, h.cell 3, h.cell 4, h.cell 5, h.lt⟩
theorem Blk.f6 {W : World} {b : Nat} {v0 v1 v2 v3 v4 v5 : Value} {t : TypeId} (h : Blk W b #[v0, v1, v2, v3, v4, v5] t) :
    W.frozen? ⟨b, 0, none⟩ = false ∧ W.frozen? ⟨b, 1, none⟩ = false ∧ W.frozen? ⟨b, 2, none⟩ = false ∧ W.frozen? ⟨b, 3, none⟩ = false ∧ W.frozen? ⟨b, 4, none⟩ = false ∧ W.frozen? ⟨b, 5, none⟩ = false :=
  ⟨h.free 0, h.free 1, h.free 2, h.free 3, h.free 4, h.free 5⟩
end Go.Proofs.YtnlnbgcmmlpniaaGreatDoor

namespace Go.Proofs.YtnlnbgcmmlpniaaGreatDoor
open Go.RowKit

/-- A value's bytes. -/
def valB (k n : Int) (s : List UInt8) : List UInt8 := numB k.toNat ++ (if k = 1 then numB (zig n) else if k = 2 then textB s else [])

theorem textB_small {s : ByteArray} (h : s.size ≤ 1000000) : (textB s.data.toList).length ≤ 1000009 := by
  have hl : s.data.toList.length = s.size := Array.length_toList
  have := numB_small (n := s.size) (by omega)
  unfold textB
  rw [List.length_append, hl]
  omega
theorem valB_0 (n : Int) (s : List UInt8) : valB 0 n s = numB 0 := by simp [valB]
theorem valB_1 (n : Int) (s : List UInt8) : valB 1 n s = numB 1 ++ numB (zig n) := by simp [valB]
theorem valB_2 (n : Int) (s : List UInt8) : valB 2 n s = numB 2 ++ textB s := by simp [valB]

set_option maxRecDepth 100000 in
set_option maxHeartbeats 1000000 in
theorem refPValue_any (k n : Int) (s : ByteArray) (w : World) (hk : k = 0 ∨ k = 1 ∨ k = 2) (h0 : -9223372036854775808 ≤ n) (h1 : n ≤ 9223372036854775807) (hs : s.size ≤ 1000000) :
    Calls Tryz.prog 105 #[.agg #[.int .i64 k, .int .i64 n, .string s]] w fun e w' => PutP w (valB k n s.data.toList) e w' := by
  obtain ⟨i0, hi0, hz0, hz1, hz2⟩ := info_parts byt_info
  have H0 := Lib.hid h0
  have H1 := Lib.hid h1
  clear h0 h1
  rcases hk with rfl | rfl | rfl
  all_goals
    go_enter Tryz.func105, Tryz.ntmps105
    go_wp2_with fail
  · have hC := blk_new w #[.int .i64 0, .int .i64 n, .string s] 59
    have hB := b0 w (.cells #[.int .i64 0, .int .i64 n, .string s] 59)
    generalize w.alloc (.cells #[.int .i64 0, .int .i64 n, .string s] 59) = W at hC hB ⊢
    refine (refNumber_any 0 W (by omega)).mono ?_
    rintro e w1 ⟨⟨A, m, c, rfl, hO⟩, hb⟩
    obtain ⟨c0, c1, c2, c3⟩ := (hC.keep hb).c3
    go_wp2_with fail
    go_ret
    exact ⟨⟨A, m, c, rfl, by rw [valB_0]; exact hO.less hB.size⟩, bt hB hb⟩
  · have hC := blk_new w #[.int .i64 1, .int .i64 n, .string s] 59
    have hB := b0 w (.cells #[.int .i64 1, .int .i64 n, .string s] 59)
    generalize w.alloc (.cells #[.int .i64 1, .int .i64 n, .string s] 59) = W at hC hB ⊢
    refine (refNumber_any 1 W (by omega)).mono ?_
    rintro e w1 ⟨⟨A, m, c, rfl, hO⟩, hb⟩
    have hC1 := hC.keep hb
    obtain ⟨c0, c1, c2, c3⟩ := hC1.c3
    have hk1 := hO.len
    have hm1 : m ≤ 9 := by have := numB_small (n := 1) (by omega); omega
    clear hk1
    go_wp2_with fail
    refine (refPInt_any n w1 H0.out H1.out).mono ?_
    rintro e w2 ⟨⟨A2, m2, d, rfl, hO2⟩, hb2⟩
    have hC2 := hC1.keep hb2
    obtain ⟨d0, d1, d2, d3⟩ := hC2.c3
    have hk2 := hO2.len
    have HK2 := Lib.hid hk2
    have hm2 : m2 ≤ 9 := by have := numB_small (zig_lt H0.out H1.out); omega
    clear hk2 c0 c1 c2 c3
    have hO1 := hO.keep hb2
    have hBB := bt hb hb2
    go_wp2_with (at_builtin; refine wpList_apB (base := W.heap.size) (n := m) (m := m2) (l := numB 1) (l2 := numB (zig n)) (by rfl) _ _ (by rfl) Tryz.underlying29 Tryz.underlying29 hi0 hz0 hz1 hz2 (by rfl) (by rfl) hO1 hO2.rd HK2.out (m + m2) rfl (by omega) hBB.size ?_; intro A5 c5 w5 hO5 hb5 hg5; obtain ⟨q0, q1, q2, q3⟩ := (hC.keep (hBB.trans hb5)).c3)
    go_ret
    exact ⟨⟨A5, m + m2, c5, rfl, by rw [valB_1]; exact hO5.less hB.size⟩, bt hB (hBB.trans hb5)⟩
  · have hC := blk_new w #[.int .i64 2, .int .i64 n, .string s] 59
    have hB := b0 w (.cells #[.int .i64 2, .int .i64 n, .string s] 59)
    generalize w.alloc (.cells #[.int .i64 2, .int .i64 n, .string s] 59) = W at hC hB ⊢
    refine (refNumber_any 2 W (by omega)).mono ?_
    rintro e w1 ⟨⟨A, m, c, rfl, hO⟩, hb⟩
    have hC1 := hC.keep hb
    obtain ⟨c0, c1, c2, c3⟩ := hC1.c3
    have hk1 := hO.len
    have hm1 : m ≤ 9 := by have := numB_small (n := 2) (by omega); omega
    clear hk1
    go_wp2_with fail
    refine (refPText_any s w1 hs).mono ?_
    rintro e w2 ⟨⟨A2, m2, d, rfl, hO2⟩, hb2⟩
    have hC2 := hC1.keep hb2
    obtain ⟨d0, d1, d2, d3⟩ := hC2.c3
    have hk2 := hO2.len
    have HK2 := Lib.hid hk2
    have hm2 : m2 ≤ 1000009 := by have := textB_small hs; omega
    clear hk2 c0 c1 c2 c3
    have hO1 := hO.keep hb2
    have hBB := bt hb hb2
    go_wp2_with (at_builtin; refine wpList_apB (base := W.heap.size) (n := m) (m := m2) (l := numB 2) (l2 := textB s.data.toList) (by rfl) _ _ (by rfl) Tryz.underlying29 Tryz.underlying29 hi0 hz0 hz1 hz2 (by rfl) (by rfl) hO1 hO2.rd HK2.out (m + m2) rfl (by omega) hBB.size ?_; intro A5 c5 w5 hO5 hb5 hg5; obtain ⟨q0, q1, q2, q3⟩ := (hC.keep (hBB.trans hb5)).c3)
    go_ret
    exact ⟨⟨A5, m + m2, c5, rfl, by rw [valB_2]; exact hO5.less hB.size⟩, bt hB (hBB.trans hb5)⟩
end Go.Proofs.YtnlnbgcmmlpniaaGreatDoor

namespace Go.Proofs.YtnlnbgcmmlpniaaGreatDoor
open Go.RowKit

def goodB (k n : Int) (s : ByteArray) : Bool :=
  decide ((k = 0 ∧ n = 0 ∧ s.size = 0) ∨ (k = 1 ∧ s.size = 0) ∨ (k = 2 ∧ n = 0 ∧ s.size ≤ 40))

theorem isEmpty_iff (s : ByteArray) : s.toList.isEmpty = true ↔ s.size = 0 := by
  have : s.data.toList.length = s.size := Array.length_toList
  rw [ByteArray.toList_eq, List.isEmpty_iff, ← List.length_eq_zero_iff, this]

set_option maxHeartbeats 1000000 in
theorem refGood_any (k n : Int) (s : ByteArray) (w : World) (hs : s.size ≤ maxLen) :
    Calls Tryz.prog 108 #[.agg #[.int .i64 k, .int .i64 n, .string s]] w fun e w' => e = .returned (.bool (goodB k n s)) ∧ Below w.heap.size w w' := by
  unfold maxLen at hs
  go_enter Tryz.func108, Tryz.ntmps108
  go_wp2
  all_goals go_ret
  all_goals refine ⟨ret_bool ?_, b0 _ _⟩
  all_goals unfold goodB
  all_goals rw [Bool.eq_iff_iff]
  all_goals simp only [beq_iff_eq, beq_eq_false_iff_ne, decide_eq_true_eq, isEmpty_iff, Bool.false_eq_true, false_iff] at *
  all_goals omega

end Go.Proofs.YtnlnbgcmmlpniaaGreatDoor

namespace Go.Proofs.YtnlnbgcmmlpniaaGreatDoor
open Go

/-- Does a byte stand for itself? -/
def plainB (c : Int) : Bool := decide (33 ≤ c ∧ c ≤ 126 ∧ c ≠ 34 ∧ c ≠ 37)

def plainC (c : UInt8) : Bool := plainB c.toNat
/-- A digit of 0 .. 15. -/
def hexd (n : Nat) : UInt8 := if n < 10 then UInt8.ofNat (48 + n) else UInt8.ofNat (87 + n)
def quoB (c : UInt8) : List UInt8 := if plainC c then [c] else [37, hexd (c.toNat / 16), hexd (c.toNat % 16)]
def quoL (l : List UInt8) : List UInt8 := l.flatMap quoB

theorem quoL_snoc (l : List UInt8) (c : UInt8) : quoL (l ++ [c]) = quoL l ++ quoB c := by simp [quoL]
theorem quoB_len (c : UInt8) : (quoB c).length ≤ 3 := by unfold quoB; split <;> simp
theorem quoL_len (l : List UInt8) : (quoL l).length ≤ 3 * l.length := by
  induction l with
  | nil => simp [quoL]
  | cons c l ih =>
    have := quoB_len c
    simp only [quoL, List.flatMap_cons, List.length_append, List.length_cons] at ih ⊢
    omega
theorem hexd_at (n : Nat) (h : n < 16) (h' : n < (⟨#[48, 49, 50, 51, 52, 53, 54, 55, 56, 57, 97, 98, 99, 100, 101, 102]⟩ : ByteArray).size) :
    (⟨#[48, 49, 50, 51, 52, 53, 54, 55, 56, 57, 97, 98, 99, 100, 101, 102]⟩ : ByteArray)[n] = hexd n := by
  have : ∀ m : Fin 16, (⟨#[48, 49, 50, 51, 52, 53, 54, 55, 56, 57, 97, 98, 99, 100, 101, 102]⟩ : ByteArray)[m.val]'(m.isLt) = hexd m.val := by decide
  exact this ⟨n, h⟩

end Go.Proofs.YtnlnbgcmmlpniaaGreatDoor

namespace Go.Proofs.YtnlnbgcmmlpniaaGreatDoor
open Go

/-- May a key have it? -/
def keyC (c : UInt8) : Bool := decide ((97 ≤ c.toNat ∧ c.toNat ≤ 122) ∨ (48 ≤ c.toNat ∧ c.toNat ≤ 57) ∨ c.toNat = 46 ∨ c.toNat = 45)
/-- .. and as a number. -/
def keyR (n : Int) : Bool := decide ((97 ≤ n ∧ n ≤ 122) ∨ (48 ≤ n ∧ n ≤ 57) ∨ n = 46 ∨ n = 45)
/-- Is it a key? -/
def keyB (l : List UInt8) : Bool := l.all keyC && decide (1 ≤ l.length ∧ l.length ≤ 20)
theorem keyR_nat (c : UInt8) : keyR (c.toNat : Int) = keyC c := by
  unfold keyR keyC
  rw [Bool.eq_iff_iff]
  simp only [decide_eq_true_eq]
  omega
theorem keyB_long {l : List UInt8} (h : l.length < 1 ∨ 20 < l.length) : keyB l = false := by
  unfold keyB
  have : decide (1 ≤ l.length ∧ l.length ≤ 20) = false := by simp only [decide_eq_false_iff_not]; omega
  rw [this, Bool.and_false]
theorem keyB_bad {l : List UInt8} {k : Nat} {c : UInt8} (h : l[k]? = some c) (hc : keyC c = false) : keyB l = false := by
  unfold keyB
  have : l.all keyC = false := by
    rw [List.all_eq_false]
    exact ⟨c, List.mem_of_getElem? h, by simp [hc]⟩
  rw [this, Bool.false_and]
theorem keyB_yes {l : List UInt8} (h : l.all keyC = true) (h1 : 1 ≤ l.length) (h2 : l.length ≤ 20) : keyB l = true := by
  unfold keyB
  rw [h]
  simp only [Bool.true_and, decide_eq_true_eq]
  exact ⟨h1, h2⟩
theorem keyB_all {l : List UInt8} (h : keyB l = true) : l.all keyC = true ∧ 1 ≤ l.length ∧ l.length ≤ 20 := by
  unfold keyB at h
  simp only [Bool.and_eq_true, decide_eq_true_eq] at h
  exact ⟨h.1, h.2.1, h.2.2⟩
theorem keyB_is {l : List UInt8} (h : l.all keyC = true) : keyB l = decide (1 ≤ l.length ∧ l.length ≤ 20) := by
  unfold keyB
  rw [h, Bool.true_and]
theorem keyC_low {c : UInt8} (h : keyC c = true) : c.toNat < 128 ∧ c ≠ 32 := by
  simp only [keyC, decide_eq_true_eq] at h
  refine ⟨by omega, ?_⟩
  rintro rfl
  revert h
  decide
end Go.Proofs.YtnlnbgcmmlpniaaGreatDoor

namespace Go.Proofs.YtnlnbgcmmlpniaaGreatDoor
open Go.RowKit

theorem key_snoc (s : ByteArray) (k : Nat) (h : k < s.size) : s.data.toList.take (k + 1) = s.data.toList.take k ++ [s[k]] := by
  rw [List.take_succ_eq_append_getElem (by simpa using h)]; rfl
theorem key_get (s : ByteArray) (k : Nat) (h : k < s.size) : s.data.toList[k]? = some s[k] := by
  rw [List.getElem?_eq_getElem (by simpa using h)]; rfl

set_option maxHeartbeats 1000000 in
theorem inKey_any (n : Int) (w : World) :
    Calls Tryz.prog 140 #[.int .i32 n] w fun e w' => e = .returned (.bool (keyR n)) ∧ w = w' := by
  go_enter Tryz.func140, Tryz.ntmps140
  go_wp2
  all_goals go_ret
  all_goals exact ⟨ret_bool (by unfold keyR; rw [Bool.eq_iff_iff]; simp; try omega), rfl⟩

theorem inKey_yes (n : Int) (h : keyR n = true) (w : World) :
    Calls Tryz.prog 140 #[.int .i32 n] w fun e w' => e = .returned (.bool true) ∧ w = w' := by
  have := inKey_any n w
  rwa [h] at this
theorem inKey_no (n : Int) (h : keyR n = false) (w : World) :
    Calls Tryz.prog 140 #[.int .i32 n] w fun e w' => e = .returned (.bool false) ∧ w = w' := by
  have := inKey_any n w
  rwa [h] at this

set_option maxHeartbeats 1000000 in
theorem key_any (s : ByteArray) (w : World) (hs : s.size ≤ maxLen) :
    Calls Tryz.prog 122 #[.string s] w fun e w' => e = .returned (.bool (keyB s.data.toList)) ∧ Below w.heap.size w w' := by
  unfold maxLen at hs
  have hl : s.data.toList.length = s.size := Array.length_toList
  by_cases h0 : s.size = 0
  · have R : Hid (keyB s.data.toList = false) := keyB_long (Or.inl (by omega))
    have hn : s.data.toList = [] := List.length_eq_zero_iff.1 (by omega)
    have e1 : s.toList = [] := by rw [ByteArray.toList_eq, hn]
    have e2 : s.toList.isEmpty = true := by rw [e1]; rfl
    clear h0 hl hn
    go_enter Tryz.func122, Tryz.ntmps122
    go_wp2_with fail
    go_ret
    exact ⟨ret_bool R.out.symm, Below.refl _ _⟩
  · have e2 : s.toList.isEmpty = false := by
      rw [ByteArray.toList_eq]
      cases hx : s.data.toList with
      | nil => rw [hx] at hl; simp at hl; omega
      | cons => rfl
    by_cases hlong : 20 < s.size
    · have R : Hid (keyB s.data.toList = false) := keyB_long (Or.inr (by omega))
      have i1 : (20 : Int) < (s.size : Int) := by omega
      clear h0 hl
      go_enter Tryz.func122, Tryz.ntmps122
      go_wp2_with fail
      go_ret
      exact ⟨ret_bool R.out.symm, Below.refl _ _⟩
    · have i1 : ¬ (20 : Int) < (s.size : Int) := by omega
      go_enter Tryz.func122, Tryz.ntmps122
      go_wp2_with fail
      go_loopw [] (fun wr => ∃ k : Nat, k ≤ s.size ∧ wr.heap[w.heap.size]? = some (.stringIter s k) ∧ Below w.heap.size w wr ∧ Hid ((s.data.toList.take k).all keyC = true)) (fun wr => s.size - wr.iterPos w.heap.size)
      case atStart =>
        exact ⟨0, Nat.zero_le _, World.iter_heap w s 0, b0 _ _, rfl⟩
      case round =>
        obtain ⟨k, hk, hit, hbw, hA⟩ := hrel
        have hsz : w.heap.size < wr.heap.size := (Array.getElem?_eq_some_iff.1 hit).1
        by_cases hp : k < s.size
        · have hg := key_get s k hp
          by_cases hd : keyC s[k] = true
          · have hlow := (keyC_low hd).1
            have hR := Lib.hid (show keyR (s[k].toNat : Int) = true by rw [keyR_nat]; exact hd)
            have hnx : ∀ ty, (Instr.next (.pointer (some ⟨w.heap.size, 0, none⟩)) true ty).run Tryz.prog wr = _ := fun ty => Lib.run_next_ascii_at wr w.heap.size s k ty hit hp (by omega)
            have hA2 : Hid ((s.data.toList.take (k + 1)).all keyC = true) := by
              show _ = _
              rw [key_snoc s k hp, List.all_append, hA.out]
              simp [hd]
            have hbw2 := Lib.below_iterAt hbw (k := w.heap.size) (Nat.le_refl _) s (k + 1)
            have hit2 := Lib.iterAt_heap wr w.heap.size s k (k + 1) hit
            clear hd hg hA
            go_wp2_with (go_at_call 140; refine (inKey_yes _ hR.out _).mono ?_; rintro e w2 ⟨rfl, rfl⟩)
            go_roundw
            case rel => exact ⟨k + 1, by omega, hit2, hbw2, hA2⟩
            case measure =>
              simp only [World.iterPos, hit2, hit]
              omega
          · have R : Hid (keyB s.data.toList = false) := keyB_bad hg (by simpa using hd)
            by_cases h128 : s[k].toNat < 128
            · have hR := Lib.hid (show keyR (s[k].toNat : Int) = false by rw [keyR_nat]; simpa using hd)
              have hnx : ∀ ty, (Instr.next (.pointer (some ⟨w.heap.size, 0, none⟩)) true ty).run Tryz.prog wr = _ := fun ty => Lib.run_next_ascii_at wr w.heap.size s k ty hit hp (by omega)
              have hbw2 := Lib.below_iterAt hbw (k := w.heap.size) (Nat.le_refl _) s (k + 1)
              clear hd hg hA
              go_wp2_with (go_at_call 140; refine (inKey_no _ hR.out _).mono ?_; rintro e w2 ⟨rfl, rfl⟩)
              go_ret
              exact ⟨ret_bool R.out.symm, hbw2⟩
            · have hnx : ∀ ty, (Instr.next (.pointer (some ⟨w.heap.size, 0, none⟩)) true ty).run Tryz.prog wr = _ := fun ty => Lib.run_next_any_at wr w.heap.size s k ty hit hp
              have hhi := (decode_high s k hp (by omega)).1
              have hR := Lib.hid (show keyR ((Utf8.decode s k).1 : Int) = false by unfold keyR; simp only [decide_eq_false_iff_not]; omega)
              have hbw2 := Lib.below_iterAt hbw (k := w.heap.size) (Nat.le_refl _) s (k + (Utf8.decode s k).2)
              clear hd hg hA h128 hhi
              go_wp2_with (go_at_call 140; refine (inKey_no _ hR.out _).mono ?_; rintro e w2 ⟨rfl, rfl⟩)
              go_ret
              exact ⟨ret_bool R.out.symm, hbw2⟩
        · have hnx : ∀ ty, (Instr.next (.pointer (some ⟨w.heap.size, 0, none⟩)) true ty).run Tryz.prog wr = _ := fun ty => Lib.run_next_end_at wr w.heap.size s k ty hit hp
          have ht : s.data.toList.take k = s.data.toList := List.take_of_length_le (by omega)
          have R : Hid (keyB s.data.toList = true) := by
            have hA3 := hA.out
            rw [ht] at hA3
            exact keyB_yes hA3 (by omega) (by omega)
          clear ht
          go_wp2_with fail
          go_ret
          exact ⟨ret_bool R.out.symm, hbw⟩

set_option maxHeartbeats 1000000 in
theorem refKey_any (s : ByteArray) (w : World) (hs : s.size ≤ maxLen) :
    Calls Tryz.prog 32 #[.string s] w fun e w' => e = .returned (.bool (keyB s.data.toList)) ∧ w = w' := by
  unfold maxLen at hs
  have hl : s.data.toList.length = s.size := Array.length_toList
  go_enter Tryz.func32, Tryz.ntmps32
  go_wp2_with fail
  go_loop [3] (fun i => ∃ k : Nat, k ≤ s.size ∧ i = .int .i64 k ∧ Hid ((s.data.toList.take k).all keyC = true)) (fun i => s.size - (intOf i).toNat)
  case atStart => exact ⟨0, Nat.zero_le _, rfl, rfl⟩
  case round =>
    obtain ⟨k, hk, rfl, hA⟩ := hrel
    by_cases hp : k < s.size
    · have hg := key_get s k hp
      have hc := s[k].toNat_lt
      by_cases hd : keyC s[k] = true
      · have hA2 : Hid ((s.data.toList.take (k + 1)).all keyC = true) := by
          show _ = _
          rw [key_snoc s k hp, List.all_append, hA.out]
          simp [hd]
        simp only [keyC, decide_eq_true_eq] at hd
        clear hg hA
        have j : (97 ≤ (s[k].toNat : Int) ∧ (s[k].toNat : Int) ≤ 122) ∨ ((s[k].toNat : Int) < 97 ∧ 48 ≤ (s[k].toNat : Int) ∧ (s[k].toNat : Int) ≤ 57) ∨ ((s[k].toNat : Int) < 48 ∧ ((s[k].toNat : Int) != 46) = false) ∨ ((s[k].toNat : Int) < 48 ∧ ((s[k].toNat : Int) != 46) = true ∧ ((s[k].toNat : Int) != 45) = false) := by
          rcases hd with h | h | h | h
          · exact Or.inl (by omega)
          · exact Or.inr (Or.inl (by omega))
          · exact Or.inr (Or.inr (Or.inl ⟨by omega, by rw [h]; rfl⟩))
          · exact Or.inr (Or.inr (Or.inr ⟨by omega, by rw [h]; rfl, by rw [h]; rfl⟩))
        clear hd
        rcases j with ⟨j1, j2⟩ | ⟨j1, j2, j3⟩ | ⟨j1, j2⟩ | ⟨j1, j2, j3⟩
        all_goals
          go_wp2_with fail
          go_round
          case rel => exact ⟨k + 1, by omega, by go_num, hA2⟩
          case measure => simp [intOf]; omega
      · have R : Hid (keyB s.data.toList = false) := keyB_bad hg (by simpa using hd)
        simp only [keyC, decide_eq_true_eq] at hd
        have n46 : ((s[k].toNat : Int) != 46) = true := by rw [bne_iff_ne]; omega
        have n45 : ((s[k].toNat : Int) != 45) = true := by rw [bne_iff_ne]; omega
        have j : ((s[k].toNat : Int) < 97 ∧ (s[k].toNat : Int) < 48) ∨ ((s[k].toNat : Int) < 97 ∧ 48 ≤ (s[k].toNat : Int) ∧ 57 < (s[k].toNat : Int)) ∨ (97 ≤ (s[k].toNat : Int) ∧ 122 < (s[k].toNat : Int)) := by omega
        clear hg hA hd
        rcases j with ⟨j1, j2⟩ | ⟨j1, j2, j3⟩ | ⟨j1, j2⟩
        all_goals
          go_wp2_with fail
          go_ret
          exact ⟨ret_bool R.out.symm, rfl⟩
    · have ht : s.data.toList.take k = s.data.toList := List.take_of_length_le (by omega)
      have R : Hid (keyB s.data.toList = decide (1 ≤ s.size ∧ s.size ≤ 20)) := by
        have hA3 := hA.out
        rw [ht] at hA3
        show _ = _
        rw [keyB_is hA3, hl]
      clear ht hA
      by_cases q : 1 ≤ s.size
      · have q1 : (1 : Int) ≤ (s.size : Int) := by omega
        have hq : ¬ (k : Int) < (s.size : Int) := by omega
        go_wp2_with fail
        go_ret
        refine ⟨ret_bool ?_, rfl⟩
        rw [R.out, Bool.eq_iff_iff]
        simp
        omega
      · have q1 : ¬ (1 : Int) ≤ (s.size : Int) := by omega
        have hq : ¬ (k : Int) < (s.size : Int) := by omega
        go_wp2_with fail
        go_ret
        refine ⟨ret_bool ?_, rfl⟩
        rw [R.out, Bool.eq_iff_iff]
        simp
        omega
end Go.Proofs.YtnlnbgcmmlpniaaGreatDoor

namespace Go.Proofs.YtnlnbgcmmlpniaaGreatDoor
open Go.RowKit

/-- An operation as a value. -/
abbrev opV (K : Int) (ky : ByteArray) (ka na : Int) (sa : ByteArray) (kb nb : Int) (sb : ByteArray) : Value :=
  .agg #[.int .i64 K, .string ky, .int .i64 ka, .int .i64 na, .string sa, .int .i64 kb, .int .i64 nb, .string sb]
/-- .. and as cells. -/
abbrev opC (K : Int) (ky : ByteArray) (ka na : Int) (sa : ByteArray) (kb nb : Int) (sb : ByteArray) : Array Value :=
  #[.int .i64 K, .string ky, .int .i64 ka, .int .i64 na, .string sa, .int .i64 kb, .int .i64 nb, .string sb]
/-- Is an operation good? -/
def opB (K : Int) (ky : ByteArray) (ka na : Int) (sa : ByteArray) (kb nb : Int) (sb : ByteArray) : Bool :=
  keyB ky.data.toList && goodB ka na sa && goodB kb nb sb && decide ((K = 1 ∧ ka ≠ 0 ∧ kb = 0) ∨ (K = 2 ∧ ka = 0 ∧ kb = 0) ∨ (K = 3 ∧ ka = 1 ∧ kb = 0) ∨ K = 4)

set_option maxHeartbeats 4000000 in
theorem refOpGood_any (K ka na kb nb : Int) (ky sa sb : ByteArray) (w : World) (hk : ky.size ≤ maxLen) (ha : sa.size ≤ maxLen) (hb : sb.size ≤ maxLen) :
    Calls Tryz.prog 96 #[opV K ky ka na sa kb nb sb] w fun e w' => e = .returned (.bool (opB K ky ka na sa kb nb sb)) ∧ Below w.heap.size w w' := by
  go_enter Tryz.func96, Tryz.ntmps96
  go_wp2_with fail
  have hC := Lib.hid (blk_new w (opC K ky ka na sa kb nb sb) 61)
  have hB := b0 w (.cells (opC K ky ka na sa kb nb sb) 61)
  generalize w.alloc (.cells (opC K ky ka na sa kb nb sb) 61) = W at hC hB ⊢
  obtain ⟨d0, d1, d2, d3, d4, d5, d6, d7, d8⟩ := hC.out.c8
  refine (refKey_any _ _ hk).mono ?_
  rintro e w2 ⟨rfl, rfl⟩
  cases gk : keyB ky.data.toList
  · have R : Hid (opB K ky ka na sa kb nb sb = false) := by show _ = _; unfold opB; rw [gk]; rfl
    clear gk
    go_wp2_with fail
    go_ret
    exact ⟨ret_bool R.out.symm, hB⟩
  · have Gk := Lib.hid gk
    clear gk
    go_wp2_with fail
    refine (refGood_any _ _ _ _ (by assumption)).mono ?_
    rintro e w2 ⟨rfl, hb2⟩
    replace hB := bt hB hb2
    replace hC := Lib.hid (hC.out.keep hb2)
    clear d0 d1 d2 d3 d4 d5 d6 d7 d8
    obtain ⟨d0, d1, d2, d3, d4, d5, d6, d7, d8⟩ := hC.out.c8
    cases ga : goodB ka na sa
    · have R : Hid (opB K ky ka na sa kb nb sb = false) := by show _ = _; unfold opB; rw [Gk.out, ga]; rfl
      clear ga
      go_wp2_with fail
      go_ret
      exact ⟨ret_bool R.out.symm, hB⟩
    · have Ga := Lib.hid ga
      clear ga
      go_wp2_with fail
      refine (refGood_any _ _ _ _ (by assumption)).mono ?_
      rintro e w3 ⟨rfl, hb3⟩
      replace hB := bt hB hb3
      replace hC := Lib.hid (hC.out.keep hb3)
      clear d0 d1 d2 d3 d4 d5 d6 d7 d8
      obtain ⟨d0, d1, d2, d3, d4, d5, d6, d7, d8⟩ := hC.out.c8
      cases gb : goodB kb nb sb
      · have R : Hid (opB K ky ka na sa kb nb sb = false) := by show _ = _; unfold opB; rw [Gk.out, Ga.out, gb]; rfl
        clear gb
        go_wp2_with fail
        go_ret
        exact ⟨ret_bool R.out.symm, hB⟩
      · have R : Hid (opB K ky ka na sa kb nb sb = decide ((K = 1 ∧ ka ≠ 0 ∧ kb = 0) ∨ (K = 2 ∧ ka = 0 ∧ kb = 0) ∨ (K = 3 ∧ ka = 1 ∧ kb = 0) ∨ K = 4)) := by show _ = _; unfold opB; rw [Gk.out, Ga.out, gb]; rfl
        clear gb
        go_wp2_with fail
        go_quiet (fail)
        go_wp2_with fail
        all_goals go_ret
        all_goals refine ⟨ret_bool ?_, hB.trans ⟨rfl, rfl, rfl, Nat.le_refl _, fun _ _ => rfl⟩⟩
        all_goals rw [R.out, Bool.eq_iff_iff]
        all_goals simp only [Bool.and_eq_true, decide_eq_true_eq, beq_iff_eq, beq_eq_false_iff_ne, bne_iff_ne, Bool.false_eq_true, false_iff] at *
        all_goals omega
end Go.Proofs.YtnlnbgcmmlpniaaGreatDoor
