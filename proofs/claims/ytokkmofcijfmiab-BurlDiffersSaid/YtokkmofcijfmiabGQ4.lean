/-
  WHAT IS PROVED: words for bytes that are put behind others (own work): a slice with no spare room, or a row that the call owns; append of bytes onto such. Over any program that bears the types named. · package pack's own calls that put numbers, ints and texts behind other bytes (own, putNumber, folded, putInt, putText): the document's bytes. Conditions: those typed in each theorem. · plain facts: a number out of its bytes, one more; shifted by a byte and joined with it. No program is spoken of. · the document's taking of numbers, ints, texts and flags from bytes (spinneyref05), for all bytes. Conditions: those typed in each theorem. · package pack's reader: Number, Int, count, Text, Flag, small: what they answer and leave, as the chapter says. Conditions: those typed in each theorem. · package pack's reader: count, Text, Flag, small: what they answer and leave, as the chapter says. Conditions: those typed in each theorem. · the document's bytes of good writes, of lists of them (spinneyref05.Writes). Conditions: those typed in each theorem. · a slice of bytes cut off at its front, at its end, at both, as one word (own work); over any program that bears the types named. · the document's taking of ints, texts and flags from bytes (spinneyref05), for all bytes. Conditions: those typed in each theorem. · the document's taking of values from bytes (spinneyref05.TakeValue), for all bytes. Conditions: those typed in the theorem. · the document's taking of writes from bytes (spinneyref05.TakeWrite). Conditions: those typed in the theorem.
-/
import Derived.Test.YtokkmofcijfmiabGQ0
import Derived.Test.YtokkmofcijfmiabGQ2
import Derived.Test.YtokkmofcijfmiabShelf
import Derived.Laws.BitsAllLaws
import Derived.Test.YtokkmofcijfmiabGQ3
import Derived.Test.YtokkmofcijfmiabGQ1
import Derived.Deep.Cut
namespace Go.Proofs.Ytokkmofcijfmiab
open Go.RowKit

/-- Bytes onto which more may be put: a row of the call's own, or a slice with no spare room. -/
def PreB (base : Nat) (W : World) (A : Option Addr) (n c : Nat) (l : List UInt8) : Prop := OwnB base W A n c l ∨ (RdB W.heap.size W A l ∧ l.length = n ∧ c = n ∧ n ≤ 1000000)
theorem PreB.len {base : Nat} {W : World} {A : Option Addr} {n c : Nat} {l : List UInt8} (h : PreB base W A n c l) : l.length = n := by
  rcases h with h | h
  · exact h.len
  · exact h.2.1
theorem PreB.keep {base : Nat} {W W' : World} {A : Option Addr} {n c : Nat} {l : List UInt8} (h : PreB base W A n c l) (hb : Below W.heap.size W W') : PreB base W' A n c l := by
  rcases h with h | h
  · exact .inl (h.keep hb)
  · exact .inr ⟨(h.1.keep hb (Nat.le_refl _)).more hb.size, h.2⟩
/-- All blocks that aren't bytes stay. -/
def Oth (w w' : World) : Prop := ∀ (g : Nat) (cs : Array Value) (t : TypeId), t ≠ 5 → w.heap[g]? = some (.cells cs t) → w'.heap[g]? = some (.cells cs t)
theorem Oth.refl (w : World) : Oth w w := fun _ _ _ _ h => h
theorem Oth.trans {w w1 w2 : World} (h : Oth w w1) (k : Oth w1 w2) : Oth w w2 := fun g cs t ht hg => k g cs t ht (h g cs t ht hg)
theorem Oth.below {w w' : World} (h : Below w.heap.size w w') : Oth w w' := fun g _ _ _ hg => (h.block g (Array.getElem?_eq_some_iff.1 hg).1).trans hg
theorem Oth.own {base : Nat} {w w' : World} {A : Option Addr} {n c : Nat} {l : List UInt8} (h : OwnB base w A n c l) (hg : w.grownBy w' (A.map (·.block))) : Oth w w' := by
  intro g cs t ht hcs
  have hlt := (Array.getElem?_eq_some_iff.1 hcs).1
  refine (hg.block g hlt ?_).trans hcs
  intro hrow
  rcases h.2 with ⟨hv, _⟩ | ⟨b, cap, cur, hv, _, hb, _⟩
  · injection hv with hv
    subst hv
    cases hrow
  · injection hv with hv
    subst hv
    injection hrow with hrow
    have e : g = b := hrow
    subst e
    rw [hb] at hcs
    injection hcs with hcs
    injection hcs with _ hcs _
    exact ht hcs.symm
/-- What such a call answers. -/
def PutO (base : Nat) (w : World) (L : List UInt8) (e : Ending) (w' : World) : Prop :=
  (∃ (A : Option Addr) (n c : Nat), e = .returned (.slice A n c) ∧ OwnB base w' A n c L) ∧ Below base w w' ∧ Oth w w'

theorem rd_cells {B : Nat} {w : World} {ad : Addr} {l : List UInt8} (hr : RdB B w (some ad) l) : ∀ j u, (bytV l)[j]? = some u → w.cell? (ad.add j) = some u := by
  intro j u hu
  rw [List.getElem?_map] at hu
  cases hx : l[j]? with
  | none => rw [hx] at hu; cases hu
  | some x =>
    rw [hx] at hu
    injection hu with hu
    subst hu
    obtain ⟨a2, he, _, hcell⟩ := hr j x hx
    injection he with he
    subst he
    exact hcell
/-- Append of what reads as bytes, some at least, onto such. -/
theorem run_apP {P : Program} (w : World) {t t' e' ty : TypeId} {i : TypeInfo} (ht : P.underlying t = some (.slice 5)) (ht' : P.underlying t' = some (.slice e')) (hi : P.info? 5 = some i) (hz : i.zero = some (.int .u8 0)) (hs : i.size = 1) (hy : i.bytes = 1)
    {base B : Nat} {A A2 : Option Addr} {n c m d : Nat} {l l2 : List UInt8} (hown : PreB base w A n c l) (hr : RdB B w A2 l2) (hm : l2.length = m) (hm0 : 0 < m) (hsz : n + m ≤ 1099511627776) (hbase : base ≤ w.heap.size) :
    ∃ A' c' w', (Builtin.append_ #[t, t'] ty #[.slice A n c, .slice A2 m d]).run P w = .ok (.slice A' (n + m) c') w' ∧ OwnB base w' A' (n + m) c' (l ++ l2) ∧ Below base w w' ∧ Oth w w' := by
  rcases hown with hown | ⟨hrd, hl, hc, hn⟩
  · obtain ⟨A', c', w', h1, h2, h3, h4⟩ := run_apB (P := P) (ty := ty) (d := d) w ht ht' hi hz hs hy hown hr hm hsz hbase
    exact ⟨A', c', w', h1, h2, h3, Oth.own hown h4⟩
  · subst hm
    subst hc
    subst hl
    cases A2 with
    | none =>
      cases l2 with
      | nil => exact absurd hm0 (by simp)
      | cons x r =>
        obtain ⟨ad, he, _⟩ := hr 0 x rfl
        cases he
    | some a2 =>
      cases A with
      | none =>
        have h0 : l = [] := by
          cases l with
          | nil => rfl
          | cons x r =>
            obtain ⟨ad, he, _⟩ := hrd 0 x rfl
            cases he
        subst h0
        obtain ⟨A', c', w', h1, h2, h3, h4⟩ := run_apB (P := P) (ty := ty) (d := d) w ht ht' hi hz hs hy (OwnB.nil base w) hr rfl hsz hbase
        exact ⟨A', c', w', h1, h2, h3, Oth.own (OwnB.nil base w) h4⟩
      | some ad =>
        have hrun := run_append_grow (P := P) w t ty 5 i (.int .u8 0) ht hi hz ad l.length l.length (bytV l) (by rw [hs]; simp) (rd_cells hrd) a2 l2.length d (bytV l2) (by rw [hs]; simp) (rd_cells hr) (by omega) (by omega) (growslice_fits (by omega) (by rw [hy]; omega))
        refine ⟨_, _, _, by rw [run_append_tt w ht ht']; exact hrun, ?_, ?_, Oth.below ((Below.refl _ w).drew.alloc (Nat.le_refl _) _)⟩
        · have hge := grownCap_ge w (l.length + l2.length) l.length 5
          have hcm : grownCap w (l.length + l2.length) l.length 5 ≤ maxLen := grownCap_le_maxLen w (l.length + l2.length) l.length 5 (by unfold maxLen; omega)
          have hzs : (Value.int IntKind.u8 0).cells.size = 1 := rfl
          unfold OwnB
          rw [show bytV (l ++ l2) = bytV l ++ bytV l2 from List.map_append]
          refine ⟨by simp, .inr ⟨w.heap.size, _, _, rfl, hbase, heap_alloc_new w.drew _, hge, hcm, ?_, ?_⟩⟩
          · simp only [Array.size_append, List.size_toArray, size_zeroCells, hzs, List.length_map]
            omega
          · simp only [Array.toList_append, List.append_assoc]
            rw [← List.append_assoc, show (l.length + l2.length) * 1 = (bytV l ++ bytV l2).length by simp]
            exact List.take_left
        · exact ((Below.refl base w).drew).alloc hbase _
section
variable {P : Program} {w : World} {t t' e' : TypeId} {i : TypeInfo} {base B : Nat} {A A2 : Option Addr} {n c m d : Nat} {l l2 : List UInt8} {o : Oper} {a : Act} {Q : Exit → Act → World → Prop} {ops : Array Oper}
theorem wp_apP {K : Act → World → Prop} (s x : Operand) (ho : o.op = .call { callee := .builtin .append, args := #[s, x], argTypes := #[t, t'] })
    (ht : P.underlying t = some (.slice 5)) (ht' : P.underlying t' = some (.slice e')) (hi : P.info? 5 = some i) (hz : i.zero = some (.int .u8 0)) (hs : i.size = 1) (hy : i.bytes = 1)
    (h1 : a.eval s = .slice A n c) (h2 : a.eval x = .slice A2 m d) (hown : PreB base w A n c l) (hr : RdB B w A2 l2) (hm : l2.length = m) (hm0 : 0 < m) (N : Nat) (hN : n + m = N) (hsz : n + m ≤ 1099511627776) (hbase : base ≤ w.heap.size)
    (h : ∀ A' c' w', OwnB base w' A' N c' (l ++ l2) → Below base w w' → Oth w w' → K (a.put o.dst (.slice A' N c')) w') : o.wp P a w K Q := by
  subst hN
  obtain ⟨A', c', w', hrun, k1, k2, k3⟩ := run_apP (P := P) (ty := o.type) (d := d) w ht ht' hi hz hs hy hown hr hm hm0 hsz hbase
  unfold Oper.wp execOp
  simp only [ho, resolve, invoke, builtin, Sem.run_bind, Sem.run_pure, Result.andThen_ok, List.map_toArray, List.map_cons, List.map_nil, h1, h2, hrun]
  exact h A' c' w' k1 k2 k3
/-- .. in a plain region. -/
theorem wpList_apP {rest : List Oper} (hgd : o.guard = none) (s x : Operand) (ho : o.op = .call { callee := .builtin .append, args := #[s, x], argTypes := #[t, t'] })
    (ht : P.underlying t = some (.slice 5)) (ht' : P.underlying t' = some (.slice e')) (hi : P.info? 5 = some i) (hz : i.zero = some (.int .u8 0)) (hs : i.size = 1) (hy : i.bytes = 1)
    (h1 : a.eval s = .slice A n c) (h2 : a.eval x = .slice A2 m d) (hown : PreB base w A n c l) (hr : RdB B w A2 l2) (hm : l2.length = m) (hm0 : 0 < m) (N : Nat) (hN : n + m = N) (hsz : n + m ≤ 1099511627776) (hbase : base ≤ w.heap.size)
    (h : ∀ A' c' w', OwnB base w' A' N c' (l ++ l2) → Below base w w' → Oth w w' → wpList P ops Q rest (a.put o.dst (.slice A' N c')) w') : wpList P ops Q (o :: rest) a w :=
  wpList_plain hgd fun _ hK => wp_apP s x ho ht ht' hi hz hs hy h1 h2 hown hr hm hm0 N hN hsz hbase fun A' c' w' k1 k2 k3 => hK _ _ (h A' c' w' k1 k2 k3)
end
/-- A slice without its spare room. -/
theorem run_cap (W : World) (A : Option Addr) (n c : Nat) (y z : Int) (hy : y = (n : Int)) (hz : z = (n : Int)) (hc : n ≤ c) :
    (Instr.sliceAt 58 (.slice A n c) none (some (.int .i64 y)) (some (.int .i64 z))).run Try.prog W = .ok (.slice A n n) W := by
  have h2 : (n : Int) ≤ (c : Int) := by omega
  rw [hy, hz]
  go_simp
end Go.Proofs.Ytokkmofcijfmiab

namespace Go.Proofs.Ytokkmofcijfmiab
open Go.RowKit

set_option maxRecDepth 100000 in
/-- A slice that is handed in, without its spare room. -/
theorem own_any (A : Option Addr) (n c : Nat) (w : World) (hc : n ≤ c) :
    Calls Try.prog 73 #[.slice A n c] w fun e w' => e = .returned (.slice A n n) ∧ w' = w := by
  go_enter Try.func73, Try.ntmps73
  go_wp2_with fail
  go_ret
  exact ⟨rfl, rfl⟩

set_option maxRecDepth 100000 in
set_option maxHeartbeats 2000000 in
theorem putNumber_any (base : Nat) (A : Option Addr) (n c : Nat) (l : List UInt8) (x : Nat) (w : World) (hp : PreB base w A n c l) (hb : base ≤ w.heap.size) (hm : n ≤ 100000000000) (hx : x < 18446744073709551616) :
    Calls Try.prog 84 #[.slice A n c, .int .u64 x] w fun e w' => PutO base w (l ++ numB x) e w' := by
  obtain ⟨i0, hi0, hz0, hz1, hz2⟩ := info_parts byt_info
  have h8 := beB_eight hx
  have hbits := bits_bytes x hx
  have hbl : Lib.bitLen x ≤ 64 := Lib.bitLen_le x 64 (Nat.le_refl _) hx
  have HX := Lib.hid hx
  go_enter Try.func84, Try.ntmps84
  go_wp2_with fail
  refine (Try.bits_Len64 x w (by omega) (by omega)).mono ?_
  rintro e w1 ⟨rfl, rfl⟩
  have hK : ((Lib.bitLen x : Int) + 7) / 8 = ((beB x).length : Int) := by omega
  have HB := Lib.hid (show (l ++ [UInt8.ofNat (beB x).length]) ++ beB x = l ++ numB x by unfold numB; simp)
  generalize hk : (beB x).length = k at h8 hbits hK HB
  have HK := Lib.hid hk
  have hz : (k : Int) = ((UInt8.ofNat k).toNat : Int) := by rw [UInt8.toNat_ofNat']; omega
  have hp2 := hp.keep (b0 w1 (.cells #[.int .u8 (k : Int)] 5))
  have hb2 := (Below.refl base w1).alloc hb (.cells #[.int .u8 (k : Int)] 5)
  have hr2 := (litB w1 (base := base) (k : Int) (UInt8.ofNat k) hz hb).rd
  have hbase2 := hb2.size
  have hl := hp.len
  clear hk hbits hz
  go_wp2_with (at_builtin; refine wpList_apP (base := base) (n := n) (m := 1) (l := l) (l2 := [UInt8.ofNat k]) (by rfl) _ _ (by rfl) Try.underlying58 Try.underlying58 hi0 hz0 hz1 hz2 (by rfl) (by rfl) hp2 hr2 rfl (by omega) (n + 1) rfl (by omega) (Nat.le_trans hb hbase2) ?_; intro A5 c5 w5 hO5 hb5 ho5)
  have hB5 := hb2.trans hb5
  have hT5 := (Oth.below (b0 w1 (.cells #[.int .u8 (k : Int)] 5))).trans ho5
  go_loopw [0, 6] (fun b i wr => ∃ (j : Nat) (A3 : Option Addr) (n3 c3 : Nat), j ≤ k ∧ b = .slice A3 n3 c3 ∧ i = .int .i64 ((k : Int) - 1 - (j : Int)) ∧ OwnB base wr A3 n3 c3 (l ++ [UInt8.ofNat k] ++ (beB x).take j) ∧ Below base w1 wr ∧ Oth w1 wr) (fun _ i _ => (intOf i + 1).toNat)
  case atStart => exact ⟨0, A5, n + 1, c5, Nat.zero_le _, rfl, by go_num, by simpa using hO5, hB5, hT5⟩
  case round =>
    clear hO5 hb5 hp2 hb2 hr2 hbase2 hp
    obtain ⟨j, A3, n3, c3, hj, rfl, rfl, hO, hB, hT⟩ := hrel
    by_cases hlt : j < k
    · have hl2 := hO.len
      have i1 : (0 : Int) ≤ (k : Int) - 1 - (j : Int) := by omega
      have i2 : (k : Int) - 1 - (j : Int) < 8 := by omega
      have i3 : (j : Int) ≤ (k : Int) - 1 := by omega
      have hq := shift_byte x (k - 1 - j)
      have hg : (beB x)[j]? = some (UInt8.ofNat (x / 256 ^ (k - 1 - j) % 256)) := by
        have := beB_get x j (by have := HK.out; omega)
        rw [HK.out] at this
        exact this
      have HE := Lib.hid (show l ++ [UInt8.ofNat k] ++ (beB x).take j ++ [UInt8.ofNat (x / 256 ^ (k - 1 - j) % 256)] = l ++ [UInt8.ofNat k] ++ (beB x).take (j + 1) by rw [List.take_add_one, hg]; simp)
      have hown := litB wr (base := base) _ _ hq (Nat.le_trans hb hB.size)
      have hO2 := hO.keep (b0 wr (.cells #[.int .u8 ((x : Int) / 2 ^ (8 * (k - 1 - j)) % 256)] 5))
      have hB2 := hB.alloc (Nat.le_trans hb hB.size) (.cells #[.int .u8 ((x : Int) / 2 ^ (8 * (k - 1 - j)) % 256)] 5)
      have hT2 := hT.trans (Oth.below (b0 wr (.cells #[.int .u8 ((x : Int) / 2 ^ (8 * (k - 1 - j)) % 256)] 5)))
      have hn3 : n3 ≤ 100000000000 + 10 := by rw [← hl2]; simp; omega
      have HQ := Lib.hid hq
      clear hq hg hO hl2
      go_wp2_with (at_builtin; refine wpList_apB (base := base) (n := n3) (m := 1) (l := l ++ [UInt8.ofNat k] ++ (beB x).take j) (l2 := [UInt8.ofNat (x / 256 ^ (k - 1 - j) % 256)]) (by rfl) _ _ (by rfl) Try.underlying58 Try.underlying58 hi0 hz0 hz1 hz2 (by rfl) (by rfl) hO2 hown.rd rfl (n3 + 1) rfl (by omega) (Nat.le_trans hb hB2.size) ?_; intro A6 c6 w6 hO6 hb6 hg6)
      rw [HE.out] at hO6
      have hT6 := hT2.trans (Oth.own hO2 hg6)
      go_roundw
      case rel => exact ⟨j + 1, A6, n3 + 1, c6, by omega, rfl, by go_num, hO6, hB2.trans hb6, hT6⟩
      case measure => simp [intOf]; omega
    · have i1 : ¬ (0 : Int) ≤ (k : Int) - 1 - (j : Int) := by omega
      have e : (beB x).take j = beB x := List.take_of_length_le (by have := HK.out; omega)
      rw [e, HB.out] at hO
      go_wp2_with fail
      go_ret
      exact ⟨⟨A3, n3, c3, rfl, hO⟩, hB, hT⟩

theorem not_any (n : Int) (h0 : -9223372036854775808 ≤ n) (h1 : n ≤ 9223372036854775807) : bits .xor .i64 (-1) n = -1 - n := by
  show IntKind.i64.wrap ((BitVec.ofInt 64 (-1) ^^^ BitVec.ofInt 64 n).toNat : Int) = _
  have e : BitVec.ofInt 64 (-1) = BitVec.allOnes 64 := by decide
  rw [e, BitVec.allOnes_xor, BitVec.toNat_not, BitVec.toNat_ofInt]
  simp [IntKind.wrap, IntKind.bits, IntKind.signed]
  omega
theorem ret_u64 {a b : Int} (h : a = b) : Ending.returned (.int .u64 a) = .returned (.int .u64 b) := by rw [h]
set_option maxRecDepth 100000 in
theorem folded_any (n : Int) (w : World) (h0 : -9223372036854775808 ≤ n) (h1 : n ≤ 9223372036854775807) :
    Calls Try.prog 87 #[.int .i64 n] w fun e w' => e = .returned (.int .u64 ((zig n : Nat) : Int)) ∧ w' = w := by
  have H0 := Lib.hid h0
  have H1 := Lib.hid h1
  clear h0 h1
  by_cases hn : n < 0
  · go_enter Try.func87, Try.ntmps87
    go_wp2_with fail
    go_ret
    refine ⟨ret_u64 ?_, rfl⟩
    have h0 := H0.out
    have h1 := H1.out
    unfold zig
    rw [if_pos hn, not_any n h0 h1]
    simp only [IntKind.wrap_u64]
    omega
  · go_enter Try.func87, Try.ntmps87
    go_wp2_with fail
    go_ret
    refine ⟨ret_u64 ?_, rfl⟩
    have h0 := H0.out
    have h1 := H1.out
    unfold zig
    rw [if_neg (by omega)]
    simp only [IntKind.wrap_u64]
    omega

set_option maxRecDepth 100000 in
theorem putInt_any (base : Nat) (A : Option Addr) (n c : Nat) (l : List UInt8) (x : Int) (w : World) (hp : PreB base w A n c l) (hb : base ≤ w.heap.size) (hm : n ≤ 100000000000) (h0 : -9223372036854775808 ≤ x) (h1 : x ≤ 9223372036854775807) :
    Calls Try.prog 85 #[.slice A n c, .int .i64 x] w fun e w' => PutO base w (l ++ numB (zig x)) e w' := by
  have hf := folded_any x w h0 h1
  have HZ := Lib.hid (zig_lt h0 h1)
  clear h0 h1
  go_enter Try.func85, Try.ntmps85
  go_wp2_with fail
  refine hf.mono ?_
  rintro e w1 ⟨rfl, rfl⟩
  go_wp2_with fail
  refine (putNumber_any base A n c l (zig x) w1 hp hb hm HZ.out).mono ?_
  rintro e w2 ⟨⟨A2, n2, c2, rfl, hO⟩, hb2, ht2⟩
  go_wp2_with fail
  go_ret
  exact ⟨⟨A2, n2, c2, rfl, hO⟩, hb2, ht2⟩

set_option maxRecDepth 100000 in
theorem putText_any (base : Nat) (A : Option Addr) (n c : Nat) (l : List UInt8) (s : ByteArray) (w : World) (hp : PreB base w A n c l) (hb : base ≤ w.heap.size) (hm : n ≤ 100000000000) (hs : s.size ≤ 100000000000) :
    Calls Try.prog 74 #[.slice A n c, .string s] w fun e w' => PutO base w (l ++ textB s.data.toList) e w' := by
  obtain ⟨i0, hi0, hz0, hz1, hz2⟩ := info_parts byt_info
  have HL := Lib.hid (show s.data.toList.length = s.size from Array.length_toList)
  have s0 : (0 : Int) ≤ (s.size : Int) := by omega
  have s1 : (s.size : Int) ≤ 100000000000 := by omega
  have hl := hp.len
  go_enter Try.func74, Try.ntmps74
  go_wp2_with fail
  refine (putNumber_any base A n c l s.size w hp hb hm (by omega)).mono ?_
  rintro e w2 ⟨⟨A2, n2, c2, rfl, hO⟩, hb2, ht2⟩
  have hn2 : n2 ≤ 100000000000 + 9 := by
    have h1 := hO.len
    have h2 := numB_small (n := s.size) (by omega)
    rw [List.length_append] at h1
    omega
  go_wp2_with (at_builtin; refine wpList_apT (base := base) (n := n2) (l := l ++ numB s.size) (by rfl) _ _ (by rfl) Try.underlying58 Try.underlying9 hi0 hz0 hz1 hz2 s (by rfl) (by rfl) hO (n2 + s.size) rfl (by omega) (Nat.le_trans hb hb2.size) ?_; intro A5 c5 w5 hO5 hb5 hg5)
  go_ret
  refine ⟨⟨A5, n2 + s.size, c5, rfl, ?_⟩, hb2.trans hb5, ht2.trans (Oth.own hO hg5)⟩
  unfold textB
  rw [HL.out, ← List.append_assoc]
  exact hO5
end Go.Proofs.Ytokkmofcijfmiab

namespace Go.Proofs.Ytokkmofcijfmiab
open Go.RowKit

theorem beV_take {t : List UInt8} {j : Nat} {x : UInt8} (h : t[j]? = some x) : beV (t.take (j + 1)) = beV (t.take j) * 256 + x.toNat := by
  have hj := (List.getElem?_eq_some_iff.1 h).1
  rw [List.take_succ_eq_append_getElem hj, beV_snoc]
  rw [List.getElem?_eq_getElem hj] at h
  injection h with h
  rw [h]
set_option maxRecDepth 100000 in
theorem beV_take_lt (t : List UInt8) (j : Nat) (h : j ≤ 8) : beV (t.take j) < 18446744073709551616 := by
  have h1 := beV_lt (t.take j)
  have h2 : (t.take j).length ≤ 8 := by rw [List.length_take]; omega
  have h3 : 256 ^ (t.take j).length ≤ 256 ^ 8 := Nat.pow_le_pow_right (by omega) h2
  rw [pow_eight] at h3
  omega
set_option maxRecDepth 100000 in
theorem or_byte (a c : Nat) (ha : a * 256 + c < 18446744073709551616) (hc : c < 256) : bits .or .u64 (IntKind.u64.wrap ((a : Int) * 256)) (IntKind.u64.wrap (c : Int)) = ((a * 256 + c : Nat) : Int) := by
  have e : IntKind.u64.wrap ((a : Int) * 256) = ((a * 256 : Nat) : Int) := by
    rw [IntKind.wrap_u64]
    omega
  have e2 : IntKind.u64.wrap (c : Int) = (c : Int) := by
    rw [IntKind.wrap_u64]
    omega
  rw [e, e2, u64_or_nat _ _ (by omega) (by omega)]
  have h := Nat.shiftLeft_add_eq_or_of_lt (i := 8) (b := c) hc a
  simp only [Nat.shiftLeft_eq, Nat.reducePow] at h
  rw [h]
end Go.Proofs.Ytokkmofcijfmiab

namespace Go.Proofs.Ytokkmofcijfmiab
open Go.RowKit

theorem wrap_be {v n : Nat} (h : v * 256 + n < 18446744073709551616) : IntKind.u64.wrap (IntKind.u64.wrap ((v : Int) * 256) + IntKind.u64.wrap (n : Int)) = ((v * 256 + n : Nat) : Int) := by
  simp only [IntKind.wrap_u64]
  omega
theorem RdB.cells {B : Nat} {W : World} {ad : Addr} {l : List UInt8} (h : RdB B W (some ad) l) {k : Nat} {x : UInt8} (hx : l[k]? = some x) : W.cell? (ad.add k) = some (.int .u8 (x.toNat : Int)) := by
  obtain ⟨a2, e, _, hc⟩ := h k x hx
  injection e with e
  subst e
  exact hc
theorem add_one_at (a : Addr) : a.add 1 = ⟨a.block, a.off + 1, none⟩ := rfl
/-- The pair that TakeNumber answers. -/
def TakeP (r : Nat × Nat) (w : World) (e : Ending) (w' : World) : Prop := e = .returned (.tuple #[.int .u64 (r.1 : Nat), .int .i64 (r.2 : Nat)]) ∧ Drn w w'

end Go.Proofs.Ytokkmofcijfmiab

namespace Go.Proofs.Ytokkmofcijfmiab
open Go.RowKit

theorem ba_get (s : ByteArray) (k : Nat) (h : k < s.size) : s.data.toList[k]? = some s[k] := by
  rw [List.getElem?_eq_getElem (by simpa using h)]
  rfl
theorem byte_ne (c : UInt8) : ((c.toNat : Int) != 0) = (c != 0) := by
  rw [Bool.eq_iff_iff]
  simp only [bne_iff_ne, ne_eq]
  constructor
  · intro h e
    subst e
    exact h rfl
  · intro h e
    exact h (UInt8.toNat_inj.1 (by simpa using e))
set_option maxRecDepth 100000 in
theorem grown_chain {a b c : World} {g : Nat} (h : a.grownBy b (some g)) (k : b.grownBy c (some g)) : a.grownBy c (some g) := h.trans k

theorem numOf_lt (st : Rest) (most : Nat) : (numOf st most).1 ≤ most ∧ (numOf st most).1 < 18446744073709551616 := by
  cases st with
  | none => exact ⟨Nat.zero_le _, Nat.lt_of_lt_of_le Nat.zero_lt_one (by omega)⟩
  | some b =>
    unfold numOf
    dsimp only
    by_cases h : (takeNum b most).2 = 0
    · rw [if_pos h]
      exact ⟨Nat.zero_le _, Nat.lt_of_lt_of_le Nat.zero_lt_one (by omega)⟩
    · rw [if_neg h]
      have := num_take (show takeNum b most = ((takeNum b most).1, (takeNum b most).2) from rfl) h
      exact ⟨this.1, this.2.1⟩

end Go.Proofs.Ytokkmofcijfmiab

namespace Go.Proofs.Ytokkmofcijfmiab
open Go.RowKit

theorem text_is (st : Rest) (most : Nat) : takeM (numOf st most).2 (numOf st most).1 = textOf st most := by
  cases st with
  | none => rfl
  | some b =>
    unfold numOf textOf takeTextB
    dsimp only
    by_cases h : (takeNum b most).2 = 0
    · simp [h, takeM]
    · rw [if_neg h]
      have hk := num_take (show takeNum b most = ((takeNum b most).1, (takeNum b most).2) from rfl) h
      by_cases hl : (takeNum b most).1 ≤ b.length - (takeNum b most).2
      · have hl' : (takeNum b most).1 ≤ (b.drop (takeNum b most).2).length := by rw [List.length_drop]; exact hl
        have hn : ¬ b.length - (takeNum b most).2 < (takeNum b most).1 := by omega
        have h0 : ¬ (takeNum b most).2 + (takeNum b most).1 = 0 := by omega
        simp [takeM, h, hl, hn, List.drop_drop]
      · have hn : b.length - (takeNum b most).2 < (takeNum b most).1 := by omega
        simp [takeM, h, hl, hn]
theorem byte_one (c : UInt8) : ((c.toNat : Int) == 1) = (c == 1) := by
  rw [Bool.eq_iff_iff]
  simp only [beq_iff_eq]
  constructor
  · intro h
    exact UInt8.toNat_inj.1 (by show c.toNat = 1; omega)
  · rintro rfl
    rfl
theorem flag_is (st : Rest) : ((((nextM st).1.toNat : Int) == 1), mustM (decide ((nextM st).1.toNat ≤ 1)) (nextM st).2) = flagOf st := by
  cases st with
  | none => rfl
  | some b =>
    cases b with
    | nil => rfl
    | cons c t =>
      show (((c.toNat : Int) == 1), mustM (decide (c.toNat ≤ 1)) (some t)) = _
      rw [byte_one]
      unfold flagOf takeFlagB
      dsimp only
      by_cases h : 1 < c.toNat
      · have h1 : ¬ c.toNat ≤ 1 := by omega
        have h2 : (c == 1) = false := by
          rw [beq_eq_false_iff_ne]
          rintro rfl
          exact absurd h (by decide)
        simp [mustM, h1, h, h2]
      · have h1 : c.toNat ≤ 1 := by omega
        simp [mustM, h1, h]
theorem rclone_any (s : ByteArray) (w : World) (hs : s.size ≤ 281474976710656) :
    Calls Try.prog 46 #[.string s] w fun e w' => e = .returned (.string s) ∧ Below w.heap.size w w' := by
  have h := Try.stringslite_Clone s w hs
  go_enter Try.func46, Try.ntmps46
  go_wp2_with fail
  refine h.mono ?_
  rintro e w1 ⟨rfl, hb⟩
  go_wp2_with fail
  go_ret
  exact ⟨rfl, hb⟩

end Go.Proofs.Ytokkmofcijfmiab

namespace Go.Proofs.Ytokkmofcijfmiab
open Go.RowKit
attribute [local go_sem ↓] Go.wp_at_zero Go.wp_at_succ

/-- A write's bytes; a list's. -/
def wB (x : Wr) : List UInt8 := wrB x.dev.toNat x.seq.toNat x.K.toNat x.ky.data.toList x.ka x.na x.sa.data.toList x.kb x.nb x.sb.data.toList
def wsB (l : List Wr) : List UInt8 := numB l.length ++ l.flatMap wB
theorem goodB_in {k n : Int} {s : ByteArray} (h : goodB k n s = true) : (k = 0 ∨ k = 1 ∨ k = 2) ∧ s.size ≤ 40 := by
  unfold goodB at h
  rw [decide_eq_true_eq] at h
  omega
theorem good_in {x : Wr} (h : x.good = true) : (1 ≤ x.dev ∧ x.dev ≤ 11) ∧ (1 ≤ x.seq ∧ x.seq ≤ 40) ∧ (1 ≤ x.K ∧ x.K ≤ 4) ∧ x.ky.size ≤ 20 ∧ ((x.ka = 0 ∨ x.ka = 1 ∨ x.ka = 2) ∧ x.sa.size ≤ 40) ∧ ((x.kb = 0 ∨ x.kb = 1 ∨ x.kb = 2) ∧ x.sb.size ≤ 40) := by
  unfold Wr.good wrGoodB idB opB at h
  simp only [Bool.and_eq_true, decide_eq_true_eq] at h
  obtain ⟨h1, ⟨⟨h2, h3⟩, h4⟩, h5⟩ := h
  have h6 := (keyB_all h2).2.2
  have h7 : x.ky.data.toList.length = x.ky.size := Array.length_toList
  refine ⟨by omega, by omega, by omega, by omega, goodB_in h3, goodB_in h4⟩
theorem wB_small {x : Wr} (h : x.good = true) (hf : x.fits) : (wB x).length ≤ 5000000 := by
  obtain ⟨h1, h2, h3, h4, h5, h6⟩ := good_in h
  obtain ⟨_, _, _, f1, f2⟩ := hf
  unfold wB wrB
  simp only [List.length_append]
  have a1 := numB_small (n := x.dev.toNat) (by omega)
  have a2 := numB_small (n := x.seq.toNat) (by omega)
  have a3 := numB_small (n := x.K.toNat) (by omega)
  have a4 := textB_small (s := x.ky) (by omega)
  have a5 := valB_small (s := x.sa) h5.1 f1.1 f1.2 (by omega)
  have a6 := valB_small (s := x.sb) h6.1 f2.1 f2.2 (by omega)
  omega
end Go.Proofs.Ytokkmofcijfmiab

namespace Go.Proofs.Ytokkmofcijfmiab
open Go.RowKit

/-- A slice cut off at its front: its address, in one word. -/
def cutA (A : Option Addr) (c p : Nat) : Option Addr := if c = p then A else A.map (·.add p)
theorem run_cut (W : World) (A : Option Addr) (n c p : Nat) (h : p ≤ n) :
    (Instr.sliceAt 58 (.slice A n c) (some (.int .i64 (p : Int))) none none).run Try.prog W = .ok (.slice (cutA A c p) (n - p) (c - p)) W := by
  have h1 : (p : Int) ≤ (n : Int) := by omega
  unfold cutA
  go_simp
theorem run_cutI (W : World) (A : Option Addr) (n c p : Nat) (z : Int) (hz : z = (p : Int)) (h : p ≤ n) :
    (Instr.sliceAt 58 (.slice A n c) (some (.int .i64 z)) none none).run Try.prog W = .ok (.slice (cutA A c p) (n - p) (c - p)) W := by
  rw [hz]
  exact run_cut W A n c p h
theorem RdB.cut {B : Nat} {W : World} {A : Option Addr} {l : List UInt8} (h : RdB B W A l) {p c : Nat} (hc : l.length ≤ c) : RdB B W (cutA A c p) (l.drop p) := h.drop hc
/-- .. at both ends. -/
theorem run_cut2 (W : World) (A : Option Addr) (n c p q : Nat) (y z : Int) (hy : y = (p : Int)) (hz : z = (q : Int)) (h : p ≤ q) (hq : q ≤ n) (hc : n ≤ c) :
    (Instr.sliceAt 58 (.slice A n c) (some (.int .i64 y)) (some (.int .i64 z)) none).run Try.prog W = .ok (.slice (cutA A c p) (q - p) (c - p)) W := by
  have h1 : (p : Int) ≤ (q : Int) := by omega
  have h2 : (q : Int) ≤ (c : Int) := by omega
  rw [hy, hz]
  unfold cutA
  go_simp
/-- .. at its end. -/
theorem run_cut0 (W : World) (A : Option Addr) (n c q : Nat) (z : Int) (hz : z = (q : Int)) (hq : q ≤ n) (hc : n ≤ c) :
    (Instr.sliceAt 58 (.slice A n c) none (some (.int .i64 z)) none).run Try.prog W = .ok (.slice A q c) W := by
  have h2 : (q : Int) ≤ (c : Int) := by omega
  rw [hz]
  go_simp
theorem RdB.sub {B : Nat} {W : World} {A : Option Addr} {l : List UInt8} (h : RdB B W A l) {p c : Nat} (hc : l.length ≤ c) (m : Nat) : RdB B W (cutA A c p) ((l.drop p).take m) := (h.cut hc).take m
end Go.Proofs.Ytokkmofcijfmiab

namespace Go.Proofs.Ytokkmofcijfmiab
open Go.RowKit

theorem takeNum_lt (l : List UInt8) (most : Nat) : (takeNum l most).1 < 18446744073709551616 ∧ (takeNum l most).1 ≤ most ∧ (takeNum l most).2 ≤ 9 ∧ (takeNum l most).2 ≤ l.length := by
  generalize hp : takeNum l most = p
  obtain ⟨v, k⟩ := p
  by_cases h : k = 0
  · have h1 : v = 0 := by
      subst h
      cases l with
      | nil => unfold takeNum at hp; injection hp with e1 _; exact e1.symm
      | cons c t =>
        rw [takeNum_cons] at hp
        split at hp
        · injection hp with e1 _; exact e1.symm
        · split at hp
          · injection hp with e1 _; exact e1.symm
          · injection hp with _ e2; omega
    simp only
    omega
  · obtain ⟨a1, a2, a3, a4, a5, a6⟩ := num_take hp h
    have h2 := congrArg List.length a4
    rw [List.length_append, List.length_drop, ← a3] at h2
    simp only
    omega

theorem unz_odd {v : Nat} (hp : v % 2 = 1) (h : v < 18446744073709551616) : wrap64 (-1 - wrap64 (IntKind.u64.wrap ((v : Int) / 2))) = unzig v := by
  unfold unzig wrap64
  rw [if_pos hp]
  simp only [IntKind.wrap_u64]
  omega
theorem unz_even {v : Nat} (hp : ¬ v % 2 = 1) (h : v < 18446744073709551616) : wrap64 (IntKind.u64.wrap ((v : Int) / 2)) = unzig v := by
  unfold unzig wrap64
  rw [if_neg hp]
  simp only [IntKind.wrap_u64]
  omega

end Go.Proofs.Ytokkmofcijfmiab

namespace Go.Proofs.Ytokkmofcijfmiab
open Go.RowKit

/-- A value, taken: kind, number, text; how many bytes. -/
def takeValC (v k : Nat) (b : List UInt8) : (Int × Int × List UInt8) × Nat :=
  if k = 0 ∨ v = 0 then ((0, 0, []), k)
  else if v = 1 then (if (takeIntB (b.drop k)).2 = 0 then ((0, 0, []), 0) else ((1, (takeIntB (b.drop k)).1, []), k + (takeIntB (b.drop k)).2))
  else (if (takeTextB (b.drop k) 40).2 = 0 then ((0, 0, []), 0) else ((2, 0, (takeTextB (b.drop k) 40).1), k + (takeTextB (b.drop k) 40).2))
def takeValB (b : List UInt8) : (Int × Int × List UInt8) × Nat := takeValC (takeNum b 2).1 (takeNum b 2).2 b
/-- What TakeValue answers. -/
def TakeVP (r : (Int × Int × List UInt8) × Nat) (w : World) (e : Ending) (w' : World) : Prop :=
  (∃ s : ByteArray, e = .returned (.tuple #[.agg #[.int .i64 r.1.1, .int .i64 r.1.2.1, .string s], .int .i64 (r.2 : Nat)]) ∧ s.data.toList = r.1.2.2) ∧ Below w.heap.size w w'

set_option maxHeartbeats 400000 in
theorem refIntV_any (n : Int) (w : World) :
    Calls Try.prog 50 #[.int .i64 n] w fun e w' => e = .returned (.agg #[.int .i64 1, .int .i64 n, .string ⟨#[]⟩]) ∧ Below w.heap.size w w' := by
  go_enter Try.func50, Try.ntmps50
  go_wp2
  exact bodyPost_ret (v := .agg #[.int .i64 1, .int .i64 n, .string ⟨#[]⟩]) (by simp [results, Try.results50, go_sem]) rfl ⟨rfl, (Below.refl _ _).alloc (Nat.le_refl _) _⟩
theorem takeText_le (l : List UInt8) (most : Nat) : (takeTextB l most).2 ≤ l.length := by
  unfold takeTextB
  have h := takeNum_lt l most
  split
  · simp
  · rename_i h1
    have h2 : ¬ l.length - (takeNum l most).2 < (takeNum l most).1 := fun e => h1 (Or.inr e)
    simp only
    omega
theorem takeInt_le (l : List UInt8) : (takeIntB l).2 ≤ l.length := (takeNum_lt l 18446744073709551615).2.2.2
theorem takeInt_nil : takeIntB [] = (0, 0) := rfl
theorem takeText_nil (most : Nat) : takeTextB [] most = ([], 0) := rfl
/-- A slice cut off at its front, in the model's two forms. -/
theorem cut_cases {B : Nat} {w : World} {A : Option Addr} {n c k : Nat} {l : List UInt8} (hr : RdB B w A l) (hn : l.length = n) (hk : k ≤ n) (hc : n ≤ c) :
    (c = k ∧ n = k ∧ l.drop k = []) ∨ (c ≠ k ∧ RdB B w (A.map (·.add k)) (l.drop k) ∧ (l.drop k).length = n - k) := by
  by_cases h : c = k
  · exact Or.inl ⟨h, by omega, List.drop_eq_nil_of_le (by omega)⟩
  · have h1 := hr.drop (m := k) (c := c) (by omega)
    rw [if_neg h] at h1
    exact Or.inr ⟨h, h1, by rw [List.length_drop, hn]⟩
theorem below3b {w W : World} {b : Nat} (h : Below w.heap.size w W) (hb : w.heap.size ≤ b) (v0 v1 v2 : Value) : Below w.heap.size w (((W.setCell ⟨b, 0, none⟩ v0).setCell ⟨b, 1, none⟩ v1).setCell ⟨b, 2, none⟩ v2) :=
  ((h.setCell (p := ⟨b, 0, none⟩) hb v0).setCell (p := ⟨b, 1, none⟩) hb v1).setCell (p := ⟨b, 2, none⟩) hb v2
theorem dr_below {w a b : World} (h : Below w.heap.size w a) (k : Drn a b) : Below w.heap.size w b := bt h (k.below _)

end Go.Proofs.Ytokkmofcijfmiab

namespace Go.Proofs.Ytokkmofcijfmiab
open Go.RowKit
attribute [local go_sem ↓] Go.wp_at_zero Go.wp_at_succ

/-- Where the three numbers stand. -/
def posW (l : List UInt8) : Nat → Nat
  | 0 => 0
  | j + 1 => posW l j + (takeNum (l.drop (posW l j)) 1000).2
/-- The number that stands at the j-th place; how many bytes. -/
def numW (l : List UInt8) (j : Nat) : Nat × Nat := takeNum (l.drop (posW l j)) 1000
theorem posW_succ (l : List UInt8) (j : Nat) : posW l (j + 1) = posW l j + (numW l j).2 := rfl
/-- What the array holds ahead of round j. -/
def cellW (l : List UInt8) (j i : Nat) : Value := if i < j then .int .i64 ((numW l i).1 : Nat) else .int .i64 0
abbrev rowW (l : List UInt8) (j : Nat) : Array Value := #[cellW l j 0, cellW l j 1, cellW l j 2]
abbrev zeroW : Array Value := wrI 0 0 0 ⟨#[]⟩ 0 0 ⟨#[]⟩ 0 0 ⟨#[]⟩
theorem numW_lt (l : List UInt8) (j : Nat) : (numW l j).1 ≤ 1000 ∧ (numW l j).2 ≤ 9 := ⟨(takeNum_lt _ 1000).2.1, (takeNum_lt _ 1000).2.2.1⟩
theorem posW_le (l : List UInt8) : ∀ j, posW l j ≤ l.length
  | 0 => Nat.zero_le _
  | j + 1 => by
    have h := posW_le l j
    have k := (takeNum_lt (l.drop (posW l j)) 1000).2.2.2
    rw [List.length_drop] at k
    show posW l j + (takeNum (l.drop (posW l j)) 1000).2 ≤ _
    omega

theorem blk_f10 {W : World} {b : Nat} {v0 v1 v2 v3 v4 v5 v6 v7 v8 v9 : Value} {t : TypeId} (h : Blk W b #[v0, v1, v2, v3, v4, v5, v6, v7, v8, v9] t) :
    W.frozen? ⟨b, 0, none⟩ = false ∧ W.frozen? ⟨b, 1, none⟩ = false ∧ W.frozen? ⟨b, 2, none⟩ = false ∧ W.frozen? ⟨b, 3, none⟩ = false ∧ W.frozen? ⟨b, 4, none⟩ = false ∧ W.frozen? ⟨b, 5, none⟩ = false ∧ W.frozen? ⟨b, 6, none⟩ = false ∧ W.frozen? ⟨b, 7, none⟩ = false ∧ W.frozen? ⟨b, 8, none⟩ = false ∧ W.frozen? ⟨b, 9, none⟩ = false :=
  ⟨h.free 0, h.free 1, h.free 2, h.free 3, h.free 4, h.free 5, h.free 6, h.free 7, h.free 8, h.free 9⟩
theorem below10 {B b : Nat} {w W : World} (h : Below B w W) (hb : B ≤ b) (v0 v1 v2 v3 v4 v5 v6 v7 v8 v9 : Value) : Below B w ((((((((((W.setCell ⟨b, 0, none⟩ v0).setCell ⟨b, 1, none⟩ v1).setCell ⟨b, 2, none⟩ v2).setCell ⟨b, 3, none⟩ v3).setCell ⟨b, 4, none⟩ v4).setCell ⟨b, 5, none⟩ v5).setCell ⟨b, 6, none⟩ v6).setCell ⟨b, 7, none⟩ v7).setCell ⟨b, 8, none⟩ v8).setCell ⟨b, 9, none⟩ v9) := ((((((((((h.setCell (p := ⟨b, 0, none⟩) hb v0).setCell (p := ⟨b, 1, none⟩) hb v1).setCell (p := ⟨b, 2, none⟩) hb v2).setCell (p := ⟨b, 3, none⟩) hb v3).setCell (p := ⟨b, 4, none⟩) hb v4).setCell (p := ⟨b, 5, none⟩) hb v5).setCell (p := ⟨b, 6, none⟩) hb v6).setCell (p := ⟨b, 7, none⟩) hb v7).setCell (p := ⟨b, 8, none⟩) hb v8).setCell (p := ⟨b, 9, none⟩) hb v9)
theorem rowW_set (l : List UInt8) {j v k : Nat} (hj : j < 3) (h : numW l j = (v, k)) : (rowW l j).setIfInBounds j (.int .i64 (v : Int)) = rowW l (j + 1) := by
  have e : j = 0 ∨ j = 1 ∨ j = 2 := by omega
  rcases e with rfl | rfl | rfl <;> simp [rowW, cellW, h]
theorem takeVal_le (l : List UInt8) : (takeValB l).2 ≤ l.length := by
  unfold takeValB takeValC
  have h := (takeNum_lt l 2).2.2.2
  have h1 := takeInt_le (l.drop (takeNum l 2).2)
  have h2 := takeText_le (l.drop (takeNum l 2).2) 40
  rw [List.length_drop] at h1 h2
  repeat' split
  all_goals simp only
  all_goals omega
/-- The text, the two values behind the numbers. -/
def textW (l : List UInt8) : List UInt8 × Nat := takeTextB (l.drop (posW l 3)) 20
def val1W (l : List UInt8) : (Int × Int × List UInt8) × Nat := takeValB (l.drop (posW l 3 + (textW l).2))
def val2W (l : List UInt8) : (Int × Int × List UInt8) × Nat := takeValB (l.drop (posW l 3 + (textW l).2 + (val1W l).2))
/-- What stands there, good or not. -/
def gotW (l : List UInt8) : Wr := ⟨((numW l 0).1 : Nat), ((numW l 1).1 : Nat), ((numW l 2).1 : Nat), ⟨(textW l).1.toArray⟩, (val1W l).1.1, (val1W l).1.2.1, ⟨(val1W l).1.2.2.toArray⟩, (val2W l).1.1, (val2W l).1.2.1, ⟨(val2W l).1.2.2.toArray⟩⟩
def stdW (l : List UInt8) : Prop := (∀ m, m < 3 → (numW l m).2 ≠ 0) ∧ (textW l).2 ≠ 0 ∧ (val1W l).2 ≠ 0 ∧ (val2W l).2 ≠ 0 ∧ (gotW l).good = true
open Classical in
/-- A write, taken; how many bytes; 0: no good one stands there. -/
noncomputable def takeWrB (l : List UInt8) : Wr × Nat :=
  if stdW l then (gotW l, posW l 3 + (textW l).2 + (val1W l).2 + (val2W l).2) else (⟨0, 0, 0, ⟨#[]⟩, 0, 0, ⟨#[]⟩, 0, 0, ⟨#[]⟩⟩, 0)
theorem takeWr_no {l : List UInt8} (h : ¬ stdW l) : takeWrB l = (⟨0, 0, 0, ⟨#[]⟩, 0, 0, ⟨#[]⟩, 0, 0, ⟨#[]⟩⟩, 0) := if_neg h
theorem takeWr_yes {l : List UInt8} (h : stdW l) : takeWrB l = (gotW l, posW l 3 + (textW l).2 + (val1W l).2 + (val2W l).2) := if_pos h
/-- What TakeWrite answers. -/
def TakeWP (r : Wr × Nat) (w : World) (e : Ending) (w' : World) : Prop := e = .returned (.tuple #[.agg r.1.cells, .int .i64 (r.2 : Nat)]) ∧ Below w.heap.size w w'

theorem takeText_sz (l : List UInt8) (most : Nat) : (takeTextB l most).1.length ≤ l.length := by
  unfold takeTextB
  split
  · simp
  · simp only [List.length_take, List.length_drop]
    omega
theorem takeVal_sz (l : List UInt8) : (takeValB l).1.2.2.length ≤ l.length := by
  unfold takeValB takeValC
  have h2 := takeText_sz (l.drop (takeNum l 2).2) 40
  rw [List.length_drop] at h2
  repeat' split
  all_goals simp only [List.length_nil]
  all_goals omega
theorem ba_of {s : ByteArray} {l : List UInt8} (h : s.data.toList = l) : s = ⟨l.toArray⟩ := by
  subst h
  cases s
  simp
end Go.Proofs.Ytokkmofcijfmiab
